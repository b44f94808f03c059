/-
  Several texts in one; what each one has stands at its head.
-/
import Derived.Test.YtaokifbpakbgdaaGreatDoorPut7
import Derived.Test.YtaokifbpakbgdaaGreatDoorMapF
import Derived.Maps.OwnOps
import Derived.Test.YtaokifbpakbgdaaGreatDoorPut8
import Derived.Deep.RegionWith
/- Package archive: descriptions as maps in memory; value, describe. -/
namespace Go.Proofs.YtaokifbpakbgdaaGreatDoor
open Go.RowKit Go.Maps

/-- What stands at a tag. -/
def cellD (w : World) (F : Nat → Prop) (n : Nat) : Option Value → Option (El (n + 1)) → Prop
  | none, none => True
  | some v, some x => ∃ iv, v = elV x iv ∧ RdI w F n iv x.2.2.2
  | _, _ => False
theorem cellD.keep {w w' : World} {F F' : Nat → Prop} {n : Nat} {o : Option Value} {x : Option (El (n + 1))} (h : cellD w F n o x) (hF : ∀ j, F j → F' j) (hk : ∀ j, F j → j < w.heap.size → w'.heap[j]? = w.heap[j]?) : cellD w' F' n o x := by
  match o, x, h with
  | none, none, _ => trivial
  | some v, some x, ⟨iv, h1, h2⟩ => exact ⟨iv, h1, h2.keep hF hk⟩
/-- Block b is a description of at most m entries. -/
def DMk (w : World) (F : Nat → Prop) (n b m : Nat) (g : Int → Option (El (n + 1))) : Prop := ∃ f, MapF w Tryz.prog 3 b m f ∧ ∀ t, cellD w F n (f (.int .i64 t)) (g t)
theorem DMk.keep {w w' : World} {F F' : Nat → Prop} {n b m : Nat} {g : Int → Option (El (n + 1))} (h : DMk w F n b m g) (hb : w'.heap[b]? = w.heap[b]?) (hF : ∀ j, F j → F' j) (hk : ∀ j, F j → j < w.heap.size → w'.heap[j]? = w.heap[j]?) : DMk w' F' n b m g := by
  obtain ⟨f, h1, h2⟩ := h
  exact ⟨f, h1.kept hb, fun t => (h2 t).keep hF hk⟩
theorem DMk.lt {w : World} {F : Nat → Prop} {n b m : Nat} {g : Int → Option (El (n + 1))} (h : DMk w F n b m g) : b < w.heap.size := by
  obtain ⟨f, h1, _⟩ := h
  exact h1.lt
def valG {n : Nat} (g : Int → Option (El (n + 1))) (t : Int) : By := match g t with
  | some x => x.2.2.1
  | none => []
theorem int_wf {t : Int} (h : -9223372036854775808 ≤ t ∧ t ≤ 9223372036854775807) : (Lit.int .i64 t).wf = true := by
  have h1 : IntKind.i64.min = -9223372036854775808 := by decide
  have h2 : IntKind.i64.max = 9223372036854775807 := by decide
  simp only [Lit.wf, h1, h2, Bool.and_eq_true, decide_eq_true_eq]
  exact h
theorem field_value (w : World) (t : Int) (k v : ByteArray) (iv : Value) : (Instr.field 73 (.agg #[.int .i64 t, .string k, .string v, iv]) 2).run Tryz.prog w = .ok (.string v) w := by kernel_rfl
set_option maxRecDepth 20000 in
theorem dvalue_any (w : World) (F : Nat → Prop) (n b m : Nat) (g : Int → Option (El (n + 1))) (t : Int) (h : DMk w F n b m g) (ht : -9223372036854775808 ≤ t ∧ t ≤ 9223372036854775807) :
    Calls Tryz.prog 97 #[.map (some b), .int .i64 t] w fun e w' => e = .returned (.string (bs (valG g t))) ∧ w' = w := by
  obtain ⟨f, hM, hc⟩ := h
  have hc := hc t
  have hwf := int_wf ht
  have HM := hid hM
  clear hM
  unfold valG
  have hfv := field_value w
  cases hg : g t with
  | none =>
    cases hf : f (.int .i64 t) with
    | some v => rw [hg, hf] at hc; exact hc.elim
    | none =>
      clear hc
      go_enter Tryz.func97, Tryz.ntmps97
      go_wp2_with (at_lookup; refine wpList_lookup_F1 rfl _ _ 127 rfl 3 73 (Maps.int_keyed Tryz.underlying3) Tryz.underlying127 (Tryz.zeroValue73 _) b m f rfl HM.out _ (.int .i64 t) rfl (Maps.keyOf_int_mk Tryz.underlying3 hwf) ?_)
      go_ret
      exact ⟨rfl, rfl⟩
  | some x =>
    cases hf : f (.int .i64 t) with
    | none => rw [hg, hf] at hc; exact hc.elim
    | some v =>
      rw [hg, hf] at hc
      obtain ⟨iv, rfl, _⟩ := hc
      simp only [elV] at hf
      go_enter Tryz.func97, Tryz.ntmps97
      go_wp2_with (at_lookup; refine wpList_lookup_F1 rfl _ _ 127 rfl 3 73 (Maps.int_keyed Tryz.underlying3) Tryz.underlying127 (Tryz.zeroValue73 _) b m f rfl HM.out _ (.int .i64 t) rfl (Maps.keyOf_int_mk Tryz.underlying3 hwf) ?_)
      go_ret
      exact ⟨rfl, rfl⟩
def clE {n : Nat} (x : El (n + 2)) : El (n + 2) := (x.1, x.2.1, x.2.2.1, x.2.2.2.map wordsL)
/-- A description: what of a data set is of use, by the tags. -/
def descG {n : Nat} (l : List (El (n + 2))) (t : Int) : Option (El (n + 2)) := if isKept t = true then (findE l t).map clE else none
def updG {n : Nat} (g : Int → Option (El (n + 1))) (t : Int) (x : El (n + 1)) (s : Int) : Option (El (n + 1)) := if s = t then some x else g s
theorem findE_snoc {n : Nat} (l : List (El (n + 1))) (x : El (n + 1)) (t : Int) : findE (l ++ [x]) t = (findE l t).or (if x.1 = t then some x else none) := by
  unfold findE
  rw [List.find?_append]
  congr 1
  rw [List.find?_cons]
  by_cases e : x.1 = t
  · rw [decide_eq_true e, if_pos e]
  · rw [decide_eq_false e, if_neg e]; rfl
theorem findE_none {n : Nat} {l : List (El (n + 1))} {t : Int} (h : ∀ y ∈ l, y.1 ≠ t) : findE l t = none := by
  unfold findE
  rw [List.find?_eq_none]
  intro y hy
  simpa using h y hy
theorem descG_take {n : Nat} {l : List (El (n + 2))} (hp : l.Pairwise (fun x y => x.1 < y.1)) {k : Nat} (hk : k < l.length) : descG (l.take (k + 1)) = if isKept l[k].1 = true then updG (descG (l.take k)) l[k].1 (clE l[k]) else descG (l.take k) := by
  have hno : ∀ y ∈ l.take k, y.1 ≠ l[k].1 := fun y hy => by
    rw [← List.take_append_drop k l, List.drop_eq_getElem_cons hk] at hp
    have := (List.pairwise_append.1 hp).2.2 y hy l[k] List.mem_cons_self
    omega
  funext t
  rw [List.take_succ_eq_append_getElem hk]
  unfold descG
  rw [findE_snoc]
  generalize l[k] = x at hno
  by_cases hx : isKept x.1 = true
  · rw [if_pos hx]
    unfold updG
    by_cases e : x.1 = t
    · subst e
      rw [if_pos hx, findE_none hno, if_pos rfl, if_pos rfl]; rfl
    · have e' : ¬ t = x.1 := fun h => e h.symm
      simp only [if_neg e, Option.or_none, if_neg e']
  · rw [if_neg hx]
    by_cases e : x.1 = t
    · subst e
      rw [if_neg hx, if_neg hx]
    · rw [if_neg e, Option.or_none]
theorem DMk.put {w w' : World} {F F' : Nat → Prop} {n b m' : Nat} {f : Lit → Option Value} {g : Int → Option (El (n + 1))} (hc : ∀ t, cellD w F n (f (.int .i64 t)) (g t)) (hF : ∀ j, F j → F' j) (hk : ∀ j, F j → j < w.heap.size → w'.heap[j]? = w.heap[j]?) {x : El (n + 1)} {iv : Value}
    (hM : MapF w' Tryz.prog 3 b m' (upd f (.int .i64 x.1) (some (elV x iv)))) (hi : RdI w' F' n iv x.2.2.2) : DMk w' F' n b m' (updG g x.1 x) := by
  refine ⟨_, hM, fun t => ?_⟩
  unfold upd updG
  by_cases e : t = x.1
  · subst e
    rw [if_pos ((same_iff (show WideAt.IsKeyLit (.int .i64 x.1) from trivial)).2 rfl), if_pos rfl]
    exact ⟨iv, rfl, hi⟩
  · rw [if_neg (fun h => e (by have := (same_iff (show WideAt.IsKeyLit (.int .i64 x.1) from trivial)).1 h; injection this)), if_neg e]
    exact (hc t).keep hF hk
set_option maxRecDepth 20000 in
set_option maxHeartbeats 1000000 in
theorem describe_any (n : Nat) (F : Nat → Prop) (w : World) (v : Value) (l : List (El (n + 2))) (h : Rd w F (n + 2) v l) (hF : ∀ j, F j → j < w.heap.size) (hl : l.length ≤ 24) (hp : l.Pairwise (fun x y => x.1 < y.1))
    (hx : ∀ x ∈ l, (0 ≤ x.1 ∧ x.1 ≤ 4294967295) ∧ x.2.2.2.length ≤ 8 ∧ ∀ s ∈ x.2.2.2, s.length ≤ 24) :
    Calls Tryz.prog 95 #[v] w fun e w' => e = .returned (.map (some w.heap.size)) ∧ Below w.heap.size w w' ∧ DMk w' (fun j => F j ∨ (w.heap.size < j ∧ j < w'.heap.size)) (n + 1) w.heap.size 24 (descG l) := by
  obtain ⟨ad, cap, rfl⟩ := h.slice
  have H := hid h
  have HF := hid hF
  have HP := hid hp
  have HX := hid hx
  clear h hF hp hx
  have hmm := @run_makeMap Tryz.prog
  go_enter Tryz.func95, Tryz.ntmps95
  go_wp2_with fail
  go_loopw [9] (fun i wr => ∃ k : Nat, k ≤ l.length ∧ i = .int .i64 k ∧ Hid (DMk wr (fun j => F j ∨ (w.heap.size < j ∧ j < wr.heap.size)) (n + 1) w.heap.size k (descG (l.take k))) ∧ Hid (Below w.heap.size w wr)) (fun i _ => l.length - (intOf i).toNat)
  case atStart => exact ⟨0, Nat.zero_le _, rfl, ⟨_, MapF.made w _ _, fun t => by unfold descG; rw [List.take_zero]; split <;> trivial⟩, Below.alloc (Below.refl _ _) (Nat.le_refl _) _⟩
  case round =>
    obtain ⟨k, hk, rfl, hD, hU⟩ := hrel
    by_cases hkl : k < l.length
    · have hat := hid ((H.out.up hU.out).at (List.getElem?_eq_getElem hkl))
      obtain ⟨a, ad2, cap2, rfl, _, c0, c1, c2, c3, hrd⟩ := hat.out
      have hxk := hid (HX.out _ (List.getElem_mem hkl))
      have hst := hid (descG_take HP.out hkl)
      have hrd2 := hid hrd
      clear hrd hat
      generalize l[k] = x at c0 c1 c2 c3 hrd2 hst hxk
      generalize descG (l.take k) = g at hD hst
      have u0 : Below wr.heap.size wr (wr.alloc (.cells #[.int .i64 x.1, .string (bs x.2.1), .string (bs x.2.2.1), .slice ad2 x.2.2.2.length cap2] 73)) := Below.alloc (Below.refl _ _) (Nat.le_refl _) _
      have hX := Four.new wr (.int .i64 x.1) (.string (bs x.2.1)) (.string (bs x.2.2.1)) (.slice ad2 x.2.2.2.length cap2)
      go_wp2_with fail
      go_at_call 155
      refine (isKept_any _ x.1).mono ?_
      rintro e w1 ⟨rfl, rfl⟩
      have hlo := hU.out.size
      have hDl := hD.out.lt
      by_cases hkp : isKept x.1 = true
      · have hst2 := hid (hst.out.trans (if_pos hkp))
        rw [hkp]
        clear hst hkp
        go_wp2_with fail
        go_at_call 156
        refine (aparts_any n F _ _ x.2.2.2 (hrd2.out.up u0) (fun j hj => Nat.lt_of_lt_of_le (HF.out j hj) (Nat.le_trans hlo u0.size)) hxk.out.2.1 hxk.out.2.2).mono ?_
        rintro e w2 ⟨v2, bl, rfl, u2, r2, n2⟩
        obtain ⟨ad3, cap3, hv3⟩ := r2.slice
        rw [List.length_map] at hv3
        subst hv3
        have hX2 := (hX.keep (u2.block _ (by simp))).cells
        obtain ⟨⟨x0, x1, x2, x3⟩, s0, s1, s2, s3⟩ := hX2
        have u02 := u0.trans (u2.mono u0.size)
        obtain ⟨f, q1, q2⟩ := id hD.out
        have hz0 : wr.heap.size + 1 ≤ w2.heap.size := by simpa using u2.size
        have hsame := hid (fun j (hj : j < wr.heap.size) => (Below.heap_setCell w2 ⟨wr.heap.size, 3, none⟩ (.slice ad3 x.2.2.2.length cap3) j (by simp; omega)).trans (u02.block j hj))
        have hM3 := hid (q1.kept (hsame.out _ hDl))
        have RI := hid (rdI_cp (F' := fun j => F j ∨ (wr.heap.size < j ∧ j < w2.heap.size)) r2 u2 (fun j hj => Or.inl hj) (fun j hj => Or.inr ⟨by have := (n2.2 j hj).1; simp at this; omega, (n2.2 j hj).2⟩))
        have U3 := hid ((hU.out.trans (u02.mono hlo)).setCell (p := ⟨wr.heap.size, 3, none⟩) hlo (.slice ad3 x.2.2.2.length cap3))
        have Q2 := hid q2
        have hwf := int_wf (t := x.1) (by have := hxk.out.1; omega)
        clear u0 u2 u02 r2 n2 q1 q2 hX c0 c1 c2 c3
        go_wp2_with (at_mapUpdate; refine wpList_update_F rfl _ _ _ 127 rfl 3 73 (Maps.int_keyed Tryz.underlying3) Tryz.underlying127 w.heap.size k f rfl hM3.out (by unfold maxLen; omega) _ _ (.int .i64 x.1) rfl rfl (Maps.keyOf_int_mk Tryz.underlying3 hwf) trivial ?_)
        intro w4 hM4 hg4
        have hz4 := hg4.size
        rw [World.size_setCell] at hz4
        have same4 := hid (fun j (hj : j < w2.heap.size) (h1 : j ≠ w.heap.size) (h2 : j ≠ wr.heap.size) => (hg4.block j (by simpa using hj) (fun e => h1 (by simpa using e))).trans (Below.heap_setCell w2 ⟨wr.heap.size, 3, none⟩ (.slice ad3 x.2.2.2.length cap3) j h2))
        have U4 := hid (U3.out.grown hg4 U3.out.size (fun k e => by cases e; exact Nat.le_refl _))
        have hne : Hid (∀ j, (F j ∨ (w.heap.size < j ∧ j < wr.heap.size)) → j ≠ w.heap.size) := fun j hj => by
          rcases hj with hj | hj
          · have := HF.out j hj
            omega
          · omega
        have hne2 : Hid (∀ j, (F j ∨ (wr.heap.size < j ∧ j < w2.heap.size)) → j ≠ w.heap.size ∧ j ≠ wr.heap.size) := fun j hj => by
          rcases hj with hj | hj
          · have := HF.out j hj
            omega
          · omega
        have D4 := hid (DMk.put (w := wr) (w' := w4) (F' := fun j => F j ∨ (w.heap.size < j ∧ j < w4.heap.size)) (x := clE x) Q2.out (fun j hj => by rcases hj with hj | hj; (· exact Or.inl hj); exact Or.inr ⟨hj.1, by omega⟩)
          (fun j hj hj2 => (hg4.block j (by simp; omega) (fun e => hne.out j hj (by simpa using e))).trans (hsame.out j hj2)) hM4
          (RI.out.keep (fun j hj => by rcases hj with hj | hj; (· exact Or.inl hj); exact Or.inr ⟨by omega, by omega⟩) (fun j hj hj2 => same4.out j hj2 (hne2.out j hj).1 (hne2.out j hj).2)))
        clear hM4 hg4
        go_wp2
        go_roundw
        case rel =>
          refine ⟨k + 1, by omega, by go_num, ?_, U4⟩
          unfold Hid
          rw [hst2.out]
          exact D4.out
        case measure => simp [intOf]; omega
      · have hst2 := hid (hst.out.trans (if_neg hkp))
        have hkp2 : isKept x.1 = false := by simpa using hkp
        rw [hkp2]
        clear hst hkp hkp2
        go_wp2
        go_roundw
        case rel => 
          refine ⟨k + 1, by omega, by go_num, ?_, hU.out.trans (u0.mono hlo)⟩
          unfold Hid
          rw [hst2.out]
          obtain ⟨f, q1, q2⟩ := hD.out.keep (F' := fun j => F j ∨ (w.heap.size < j ∧ j < (wr.heap.size + 1))) (u0.block _ hDl) (fun j hj => by rcases hj with hj | hj; (· exact Or.inl hj); exact Or.inr ⟨hj.1, by omega⟩) (fun j _ hj => u0.block j hj)
          exact ⟨f, q1.mono (Nat.le_succ _), by simpa using q2⟩
        case measure => simp [intOf]; omega
    · have hall : l.take k = l := List.take_of_length_le (by omega)
      have O := hid hD.out
      rw [hall] at O
      clear hD hall
      go_wp2
      go_ret
      obtain ⟨f, q1, q2⟩ := O.out
      exact ⟨rfl, hU.out, f, q1.mono (by omega), q2⟩
end Go.Proofs.YtaokifbpakbgdaaGreatDoor

/- Package archive: hasNames, splits. -/
namespace Go.Proofs.YtaokifbpakbgdaaGreatDoor
open Go.RowKit Go.Maps

/-- The table of the names' tags lies there. -/
def NamesV (w : World) : Prop := ∀ i, i < 4 → w.cell? ⟨1, i, none⟩ = some (.int .i64 (nameT i))
theorem NamesV.up {w w' : World} (h : NamesV w) (k : Below w.heap.size w w') : NamesV w' := fun i hi => (k.cell (World.block_lt_of_cell? _ _ (h i hi))).trans (h i hi)
theorem nameT_bd (k : Nat) : -9223372036854775808 ≤ nameT k ∧ nameT k ≤ 9223372036854775807 := by
  unfold nameT
  split
  · decide
  split
  · decide
  split
  · decide
  · decide
def hasN {n : Nat} (g : Int → Option (El (n + 1))) : Bool := decide (valG g (nameT 0) ≠ [] ∧ valG g (nameT 1) ≠ [] ∧ valG g (nameT 2) ≠ [] ∧ valG g (nameT 3) ≠ [])
def splG {n : Nat} (g o : Int → Option (El (n + 1))) (t a : Int) : Bool := decide (valG g t = valG o t) && decide (valG g a ≠ valG o a)
set_option maxRecDepth 20000 in
theorem splits_any (w : World) (F1 F2 : Nat → Prop) (n b1 b2 m1 m2 : Nat) (g o : Int → Option (El (n + 1))) (t a : Int) (h1 : DMk w F1 n b1 m1 g) (h2 : DMk w F2 n b2 m2 o) (ht : -9223372036854775808 ≤ t ∧ t ≤ 9223372036854775807) (ha : -9223372036854775808 ≤ a ∧ a ≤ 9223372036854775807) :
    Calls Tryz.prog 217 #[.map (some b1), .map (some b2), .int .i64 t, .int .i64 a] w fun e w' => e = .returned (.bool (splG g o t a)) ∧ w' = w := by
  have c1 := dvalue_any w F1 n b1 m1 g t h1 ht
  have c2 := dvalue_any w F2 n b2 m2 o t h2 ht
  have c3 := dvalue_any w F1 n b1 m1 g a h1 ha
  have c4 := dvalue_any w F2 n b2 m2 o a h2 ha
  clear h1 h2
  unfold splG
  generalize valG g t = s1 at *
  generalize valG o t = s2 at *
  generalize valG g a = s3 at *
  generalize valG o a = s4 at *
  go_enter Tryz.func217, Tryz.ntmps217
  go_wp2_with fail
  go_at_call 97
  refine c1.mono ?_
  rintro e w1 ⟨rfl, rfl⟩
  go_wp2_with fail
  go_at_call 97
  refine c2.mono ?_
  rintro e w1 ⟨rfl, rfl⟩
  have e1 := bs_toList s1
  have e2 := bs_toList s2
  have e3 := bs_toList s3
  have e4 := bs_toList s4
  by_cases hs : s1 = s2
  · subst hs
    clear c1 c2
    go_wp2_with fail
    go_at_call 97
    refine c3.mono ?_
    rintro e w1 ⟨rfl, rfl⟩
    go_wp2_with fail
    go_at_call 97
    refine c4.mono ?_
    rintro e w1 ⟨rfl, rfl⟩
    go_wp2
    go_ret
    refine ⟨ret_bool ?_, rfl⟩
    by_cases e : s3 = s4 <;> simp [e]
  · have hb : (s1 == s2) = false := by simpa using hs
    have hs' := hid hs
    clear hs c3 c4
    go_wp2
    go_ret
    refine ⟨ret_bool ?_, rfl⟩
    rw [decide_eq_false hs'.out, Bool.false_and]
set_option maxRecDepth 20000 in
theorem hasNames_any (w : World) (F : Nat → Prop) (n b m : Nat) (g : Int → Option (El (n + 1))) (h : DMk w F n b m g) (hn : NamesV w) :
    Calls Tryz.prog 157 #[.map (some b)] w fun e w' => e = .returned (.bool (hasN g)) ∧ w' = w := by
  have H := hid h
  have n0 : w.cell? ⟨1, 0, none⟩ = some (.int .i64 1048608) := hn 0 (by omega)
  have n1 : w.cell? ⟨1, 1, none⟩ = some (.int .i64 2097165) := hn 1 (by omega)
  have n2 : w.cell? ⟨1, 2, none⟩ = some (.int .i64 2097166) := hn 2 (by omega)
  have n3 : w.cell? ⟨1, 3, none⟩ = some (.int .i64 524312) := hn 3 (by omega)
  clear h hn
  go_enter Tryz.func157, Tryz.ntmps157
  go_wp2_with fail
  go_loopw [6] (fun i wr => ∃ k : Nat, k ≤ 4 ∧ i = .int .i64 k ∧ wr = w ∧ Hid (∀ j, j < k → valG g (nameT j) ≠ [])) (fun i _ => 4 - (intOf i).toNat)
  case atStart => exact ⟨0, by omega, rfl, rfl, fun j hj => by omega⟩
  case round =>
    obtain ⟨k, hk, rfl, rfl, hsp⟩ := hrel
    by_cases hkl : k < 4
    · have hix : (Instr.index 66 (.agg #[.int .i64 1048608, .int .i64 2097165, .int .i64 2097166, .int .i64 524312]) (.int .i64 k)).run Tryz.prog wr = .ok (.int .i64 (nameT k)) wr := by
        rcases (show k = 0 ∨ k = 1 ∨ k = 2 ∨ k = 3 by omega) with rfl | rfl | rfl | rfl <;> kernel_rfl
      have hT := nameT_bd k
      go_wp2_with fail
      go_at_call 97
      refine (dvalue_any wr F n b m g (nameT k) H.out hT).mono ?_
      rintro e w1 ⟨rfl, rfl⟩
      have hS := hid (rfl : valG g (nameT k) = valG g (nameT k))
      generalize hv : valG g (nameT k) = s at hS
      have hv' := hid hv
      have e1 := bs_toList s
      clear hv
      by_cases hs : s = []
      · have hF := hid (show hasN g = false by
          unfold hasN
          rw [decide_eq_false]
          rintro ⟨h0, h1, h2, h3⟩
          have h4 := hv'.out.trans hs
          rcases (show k = 0 ∨ k = 1 ∨ k = 2 ∨ k = 3 by omega) with rfl | rfl | rfl | rfl
          · exact h0 h4
          · exact h1 h4
          · exact h2 h4
          · exact h3 h4)
        subst hs
        go_wp2
        go_ret
        exact ⟨ret_bool hF.out.symm, rfl⟩
      · have hb : s.isEmpty = false := by cases s with | nil => exact absurd rfl hs | cons _ _ => rfl
        have hb2 : (s == []) = false := by simpa using hs
        have hsp2 : Hid (∀ j, j < k + 1 → valG g (nameT j) ≠ []) := fun j hj => by
          by_cases e : j = k
          · subst e; rw [hv'.out]; exact hs
          · exact hsp.out j (by omega)
        have hs' := hid hs
        clear hs
        go_wp2
        go_roundw
        case rel => exact ⟨k + 1, by omega, by go_num, trivial, hsp2⟩
        case measure => simp [intOf]; omega
    · have hF := hid (show hasN g = true by
        unfold hasN
        rw [decide_eq_true]
        exact ⟨hsp.out 0 (by omega), hsp.out 1 (by omega), hsp.out 2 (by omega), hsp.out 3 (by omega)⟩)
      go_wp2
      go_ret
      exact ⟨ret_bool hF.out.symm, rfl⟩
end Go.Proofs.YtaokifbpakbgdaaGreatDoor

/- Package archive: the archive in memory; isElsewhere, isFullFor, checkPlace. -/
namespace Go.Proofs.YtaokifbpakbgdaaGreatDoor
open Go.RowKit Go.Maps

/-- The two cells of an archive: the map of its pictures, the turn. -/
def Arc2 (w : World) (a m : Nat) (T : Int) : Prop := w.heap[a]? = some (.cells #[.map (some m), .int .i64 T] 124 (0, 0))
theorem Arc2.cells {w : World} {a m : Nat} {T : Int} (h : Arc2 w a m T) : (w.cell? ⟨a, 0, none⟩ = some (.map (some m)) ∧ w.cell? ⟨a, 1, none⟩ = some (.int .i64 T)) ∧ w.frozen? ⟨a, 0, none⟩ = false ∧ w.frozen? ⟨a, 1, none⟩ = false := by
  unfold Arc2 at h
  simp [World.cell?, World.frozen?, h]
theorem Arc2.lt {w : World} {a m : Nat} {T : Int} (h : Arc2 w a m T) : a < w.heap.size := lt_of_block h
theorem Arc2.keep {w w' : World} {a m : Nat} {T : Int} (h : Arc2 w a m T) (k : w'.heap[a]? = w.heap[a]?) : Arc2 w' a m T := k.trans h
theorem Arc2.set {w : World} {a m : Nat} {T : Int} (h : Arc2 w a m T) (c : Int) : Arc2 (w.setCell ⟨a, 1, none⟩ (.int .i64 c)) a m c := by
  unfold Arc2 at h ⊢
  have hlt := lt_of_block h
  have h' : w.heap[a] = .cells #[.map (some m), .int .i64 T] 124 (0, 0) := by simpa [Array.getElem?_eq_getElem hlt] using h
  show (w.heap.modify a _)[a]? = _
  rw [Array.getElem?_eq_getElem (by simpa using hlt), Array.getElem_modify_self, h']
  rfl
/-- A picture's value: its description, its turn. -/
abbrev picV (d : Nat) (t : Int) : Value := .agg #[.map (some d), .int .i64 t]
abbrev keyS (s : By) : Lit := .string s
/-- The pictures: to each data set its description and its turn; turns rise. -/
def Pics (w : World) (F : Nat → Prop) (n : Nat) (f : Lit → Option Value) : List (List (El (n + 2))) → List (Nat × Int) → Prop
  | [], [] => True
  | l :: A, p :: ps => f (keyS (nm 3 l)) = some (picV p.1 p.2) ∧ F p.1 ∧ DMk w F (n + 1) p.1 24 (descG l) ∧ Pics w F n f A ps
  | _, _ => False
/-- An archive in memory. -/
def ProA (w : World) (F : Nat → Prop) (n a m : Nat) (T : Int) (A : List (List (El (n + 2)))) : Prop :=
  Arc2 w a m T ∧ ∃ f ps, MapF w Tryz.prog 9 m A.length f ∧ Pics w F n f A ps ∧ (ps.map (·.2)).Pairwise (· < ·) ∧ (∀ p ∈ ps, p.2 ≤ T) ∧ ∀ k, (f k).isSome = true ↔ ∃ l ∈ A, k = keyS (nm 3 l)
/-- What is asked of the data sets that lie in an archive. -/
def Good {n : Nat} (A : List (List (El (n + 2)))) : Prop := A.length ≤ 48 ∧ (A.map (nm 3)).Nodup ∧ ∀ l ∈ A, errS (n + 2) 0 l = 0 ∧ desE l = 0
theorem kept_name (i : Nat) : isKept (nameT i) = true := by
  unfold nameT
  split
  · decide
  split
  · decide
  split
  · decide
  · decide
theorem valG_desc {n : Nat} (l : List (El (n + 2))) (i : Nat) : valG (descG l) (nameT i) = nm i l := by
  unfold valG descG nm textE
  rw [if_pos (kept_name i)]
  cases findE l (nameT i) <;> rfl
theorem Pics.find {w : World} {F : Nat → Prop} {n : Nat} {f : Lit → Option Value} : ∀ {A : List (List (El (n + 2)))} {ps : List (Nat × Int)}, Pics w F n f A ps → ∀ l ∈ A, ∃ p ∈ ps, f (keyS (nm 3 l)) = some (picV p.1 p.2) ∧ F p.1 ∧ DMk w F (n + 1) p.1 24 (descG l)
  | [], _, _, l, hl => nomatch hl
  | _ :: _, [], h, _, _ => h.elim
  | l0 :: A, p :: ps, h, l, hl => by
    obtain ⟨h1, h2, h3, h4⟩ := h
    rcases List.mem_cons.1 hl with rfl | hl
    · exact ⟨p, List.mem_cons_self, h1, h2, h3⟩
    · obtain ⟨q, hq, r⟩ := Pics.find h4 l hl
      exact ⟨q, List.mem_cons_of_mem _ hq, r⟩
theorem Pics.keep {w w' : World} {F F' : Nat → Prop} {n : Nat} {f : Lit → Option Value} (hF : ∀ j, F j → F' j) (hk : ∀ j, F j → j < w.heap.size → w'.heap[j]? = w.heap[j]?) : ∀ {A : List (List (El (n + 2)))} {ps : List (Nat × Int)}, Pics w F n f A ps → Pics w' F' n f A ps
  | [], [], _ => trivial
  | [], _ :: _, h => h.elim
  | _ :: _, [], h => h.elim
  | l0 :: A, p :: ps, h => by
    obtain ⟨h1, h2, h3, h4⟩ := h
    exact ⟨h1, hF _ h2, h3.keep (hk _ h2 h3.lt) hF hk, Pics.keep hF hk h4⟩
theorem ProA.keep {w w' : World} {F F' : Nat → Prop} {n a m : Nat} {T : Int} {A : List (List (El (n + 2)))} (h : ProA w F n a m T A) (ha : w'.heap[a]? = w.heap[a]?) (hm : w'.heap[m]? = w.heap[m]?) (hF : ∀ j, F j → F' j) (hk : ∀ j, F j → j < w.heap.size → w'.heap[j]? = w.heap[j]?) : ProA w' F' n a m T A := by
  obtain ⟨h1, f, ps, h2, h3, h4, h5, h6⟩ := h
  exact ⟨h1.keep ha, f, ps, h2.kept hm, h3.keep hF hk, h4, h5, h6⟩
theorem ProA.mlt {w : World} {F : Nat → Prop} {n a m : Nat} {T : Int} {A : List (List (El (n + 2)))} (h : ProA w F n a m T A) : m < w.heap.size := by
  obtain ⟨_, f, ps, h2, _⟩ := h
  exact h2.lt
theorem ProA.up {w w' : World} {F : Nat → Prop} {n a m : Nat} {T : Int} {A : List (List (El (n + 2)))} (h : ProA w F n a m T A) (k : Below w.heap.size w w') : ProA w' F n a m T A :=
  h.keep (k.block _ h.1.lt) (k.block _ h.mlt) (fun _ h => h) (fun j _ hj => k.block j hj)
theorem DMk.up {w w' : World} {F : Nat → Prop} {n b m : Nat} {g : Int → Option (El (n + 1))} (h : DMk w F n b m g) (k : Below w.heap.size w w') : DMk w' F n b m g := h.keep (k.block _ h.lt) (fun _ h => h) (fun j _ hj => k.block j hj)
theorem RanF.left_eq {w : World} {P : Program} {k : TypeId} {b r n : Nat} {f : Lit → Option Value} {left : Lit → Bool} {cnt : Nat} (h : RanF w P k b r n f left cnt) : w.rangeLeft b r = cnt := by
  obtain ⟨D, h1, _⟩ := h
  exact h1.left_eq
theorem RanF.up {w w' : World} {P : Program} {k : TypeId} {b r n : Nat} {f : Lit → Option Value} {left : Lit → Bool} {cnt : Nat} (h : RanF w P k b r n f left cnt) (u : Below w.heap.size w w') : RanF w' P k b r n f left cnt := by
  obtain ⟨D, h1, h2⟩ := h
  exact ⟨D, h1.kept (row := none) ⟨u.os, u.tape, u.output, u.size, fun j hj _ => u.block j hj⟩ (by simp) (by simp), h2⟩
theorem clash_spl {n : Nat} (l o : List (El (n + 2))) : (splG (descG l) (descG o) 2097166 2097165 || splG (descG l) (descG o) 2097165 1048608) = clash l o := by
  have h0 := fun l : List (El (n + 2)) => valG_desc l 0
  have h1 := fun l : List (El (n + 2)) => valG_desc l 1
  have h2 := fun l : List (El (n + 2)) => valG_desc l 2
  have t0 : nameT 0 = 1048608 := rfl
  have t1 : nameT 1 = 2097165 := rfl
  have t2 : nameT 2 = 2097166 := rfl
  rw [t0] at h0; rw [t1] at h1; rw [t2] at h2
  unfold splG clash
  rw [h0, h0, h1, h1, h2, h2]
  have e : ∀ a b : By, decide (a = b) = decide (b = a) := fun a b => decide_eq_decide.2 ⟨Eq.symm, Eq.symm⟩
  have e' : ∀ a b : By, decide (a ≠ b) = decide (b ≠ a) := fun a b => decide_eq_decide.2 ⟨fun h e => h e.symm, fun h e => h e.symm⟩
  rw [e (nm 2 l), e' (nm 1 l), e (nm 1 l), e' (nm 0 l)]
theorem out_any {n : Nat} (A : List (List (El (n + 1)))) (s : By) (p : List (El (n + 1)) → Bool) : (outA A s).any p = A.any (fun o => decide (nm 3 o ≠ s) && p o) := by
  unfold outA
  induction A with
  | nil => rfl
  | cons o A ih =>
    rw [List.any_cons]
    by_cases h : nm 3 o ≠ s
    · rw [List.filter_cons_of_pos (by simpa using h), List.any_cons, ih, decide_eq_true h, Bool.true_and]
    · rw [List.filter_cons_of_neg (by simpa using h), ih, decide_eq_false h, Bool.false_and, Bool.false_or]
theorem nodup_eq {α β : Type} {f : α → β} : ∀ {l : List α}, (l.map f).Nodup → ∀ {x y : α}, x ∈ l → y ∈ l → f x = f y → x = y
  | [], _, _, _, hx, _, _ => nomatch hx
  | z :: l, h, x, y, hx, hy, e => by
    rw [List.map_cons, List.nodup_cons] at h
    rcases List.mem_cons.1 hx with hx | hx <;> rcases List.mem_cons.1 hy with hy | hy
    · rw [hx, hy]
    · exact absurd (List.mem_map.2 ⟨y, hy, by rw [← e, hx]⟩) h.1
    · exact absurd (List.mem_map.2 ⟨x, hx, by rw [e, hy]⟩) h.1
    · exact nodup_eq h.2 hx hy e
set_option maxRecDepth 20000 in
set_option maxHeartbeats 2000000 in
theorem isElsewhere_any (n : Nat) (F Fd : Nat → Prop) (w : World) (a m dB : Nat) (T : Int) (A : List (List (El (n + 2)))) (l : List (El (n + 2))) (h : ProA w F n a m T A) (hd : DMk w Fd (n + 1) dB 24 (descG l)) (hnd : (A.map (nm 3)).Nodup) :
    Calls Tryz.prog 158 #[ptr a, .map (some dB)] w fun e w' => e = .returned (.bool ((outA A (nm 3 l)).any (clash l))) ∧ Below w.heap.size w w' := by
  obtain ⟨h1, f, ps, hM, hP, _, _, hK⟩ := h
  obtain ⟨⟨a0, _⟩, _⟩ := h1.cells
  have HM := hid hM
  have HP := hid hP
  have HK := hid hK
  have HD := hid hd
  clear h1 hM hP hK hd
  rw [out_any]
  go_enter Tryz.func158, Tryz.ntmps158
  go_wp2_with (at_range; refine wpList_range_F rfl _ 122 rfl 9 131 (Maps.string_keyed Tryz.underlying9) Tryz.underlying122 m A.length f rfl HM.out ?_)
  intro w0 cnt0 hr0 hg0 hs0
  have hB0 : Hid (Below w.heap.size w w0) := ⟨hg0.os, hg0.tape, hg0.output, hg0.size, fun j hj => hg0.block j hj (by simp)⟩
  have HR0 := hid hr0
  clear hr0 hg0
  go_wp2_with fail
  go_loopw [5] (fun _ wr => ∃ (left : Lit → Bool) (cnt : Nat), Hid (RanF wr Tryz.prog 9 m w.heap.size A.length f left cnt) ∧ Hid (∀ o ∈ A, left (keyS (nm 3 o)) = false → (decide (nm 3 o ≠ nm 3 l) && clash l o) = false) ∧ Hid (Below w.heap.size w wr)) (fun _ wr => wr.rangeLeft m w.heap.size)
  case atStart => exact ⟨_, cnt0, HR0, fun o ho hf => absurd ((HK.out (keyS (nm 3 o))).2 ⟨o, ho, rfl⟩) (by rw [hf]; decide), hB0⟩
  case round =>
    obtain ⟨left, cnt, hR, hL, hU⟩ := hrel
    go_wp2_with (at_next; refine wpList_next_F rfl _ rfl 9 (Maps.string_keyed Tryz.underlying9) Tryz.underlying9 m w.heap.size A.length f left cnt rfl hR.out ?_ ?_)
    · intro _ hl0
      have hF := hid (show A.any (fun o => decide (nm 3 o ≠ nm 3 l) && clash l o) = false by
        rw [List.any_eq_false]
        intro o ho
        rw [hL.out o ho (hl0 _)]
        decide)
      go_wp2
      go_ret
      exact ⟨ret_bool hF.out.symm, hU.out⟩
    · intro x c w2 cnt2 hx hlx hfx hr2 hlt hg2 hs2 hen
      obtain ⟨o, ho, ek⟩ := (HK.out (.string x.data.toList)).1 (by rw [hfx]; rfl)
      have ex : x = bs (nm 3 o) := by
        have : x.data.toList = nm 3 o := by injection ek
        rw [← this]; rfl
      subst ex
      obtain ⟨p, _, hfp, hFp, hDp⟩ := HP.out.find o ho
      have ec : c = picV p.1 p.2 := Option.some.inj (hfx.symm.trans hfp)
      subst ec
      have U2 : Below w.heap.size w w2 := hU.out.grown hg2 hU.out.size (fun k e => by cases e; exact Nat.le_refl _)
      have U3 := hid (Below.alloc U2 U2.size (.cells #[.map (some p.1), .int .i64 p.2] 131))
      have R3 := hid (hr2.up (Below.alloc (Below.refl _ w2) (Nat.le_refl _) (.cells #[.map (some p.1), .int .i64 p.2] 131)))
      have c1 := hid (dvalue_any _ Fd (n + 1) dB 24 (descG l) 524312 (HD.out.up U3.out) (by decide))
      have c2 := hid (splits_any _ Fd F (n + 1) dB p.1 24 24 (descG l) (descG o) 2097166 2097165 (HD.out.up U3.out) (hDp.up U3.out) (by decide) (by decide))
      have c3 := hid (splits_any _ Fd F (n + 1) dB p.1 24 24 (descG l) (descG o) 2097165 1048608 (HD.out.up U3.out) (hDp.up U3.out) (by decide) (by decide))
      have HO := hid ho
      have HLT := hid hlt
      clear hr2 hg2 hs2 U2 hfx hfp hFp hDp ek ho hlt
      have hcl := hid (clash_spl l o)
      have hv3 := hid (valG_desc l 3)
      change Hid (valG (descG l) 524312 = nm 3 l) at hv3
      rw [hv3.out] at c1
      have hR := hid hR
      have hLx : Hid (∀ q ∈ A, (left (keyS (nm 3 q)) && !(keyS (nm 3 q)).sameKey (.string (bs (nm 3 o)).data.toList)) = false → (nm 3 q = nm 3 o ∨ (decide (nm 3 q ≠ nm 3 l) && clash l q) = false)) := fun q hq h => by
        cases hlq : left (keyS (nm 3 q)) with
        | false => exact Or.inr (hL.out q hq hlq)
        | true =>
          rw [hlq, Bool.true_and] at h
          have h2 : (keyS (nm 3 q)).sameKey (.string (bs (nm 3 o)).data.toList) = true := by simpa using h
          have h3 := WideAt.sameKey_eq h2
          exact Or.inl (by injection h3)
      have hND := hid hnd
      go_wp2_with fail
      go_at_call 97
      refine c1.out.mono ?_
      rintro e w3 ⟨rfl, rfl⟩
      have e1 := bs_toList (nm 3 o)
      have e2 := bs_toList (nm 3 l)
      have hnext : Hid ((decide (nm 3 o ≠ nm 3 l) && clash l o) = false → ∀ q ∈ A, (left (keyS (nm 3 q)) && !(keyS (nm 3 q)).sameKey (.string (bs (nm 3 o)).data.toList)) = false → (decide (nm 3 q ≠ nm 3 l) && clash l q) = false) := fun h q hq hl => by
        rcases hLx.out q hq hl with e | e
        · rw [nodup_eq hND.out hq HO.out e]; exact h
        · exact e
      have hfin : Hid ((decide (nm 3 o ≠ nm 3 l) && clash l o) = true → A.any (fun o => decide (nm 3 o ≠ nm 3 l) && clash l o) = true) := fun h => List.any_eq_true.2 ⟨o, HO.out, h⟩
      clear c1 hLx hL hND
      by_cases hno : nm 3 o = nm 3 l
      · have hb : (nm 3 o == nm 3 l) = true := by simpa using hno
        have hL3 := hid (hnext.out (by rw [decide_eq_false (fun h => h hno), Bool.false_and]))
        clear hnext hfin hno c2 c3
        go_wp2
        go_roundw
        case rel => exact ⟨_, cnt2, R3, hL3, U3⟩
        case measure => rw [R3.out.left_eq, hR.out.out.left_eq]; exact HLT.out
      · have hb : (nm 3 o == nm 3 l) = false := by simpa using hno
        rw [decide_eq_true hno, Bool.true_and] at hnext hfin
        clear hno
        go_wp2_with fail
        go_at_call 217
        refine c2.out.mono ?_
        clear c2
        rintro e w4 ⟨rfl, rfl⟩
        generalize splG (descG l) (descG o) 2097166 2097165 = s1 at hcl
        cases s1
        · rw [Bool.false_or] at hcl
          go_wp2_with fail
          go_at_call 217
          refine c3.out.mono ?_
          clear c3
          rintro e w5 ⟨rfl, rfl⟩
          generalize splG (descG l) (descG o) 2097165 1048608 = s2 at hcl
          cases s2
          · have hL3 := hid (hnext.out hcl.out.symm)
            clear hnext hfin hcl
            go_wp2
            go_roundw
            case rel => exact ⟨_, cnt2, R3, hL3, U3⟩
            case measure => rw [R3.out.left_eq, hR.out.out.left_eq]; exact HLT.out
          · have hF := hid (hfin.out hcl.out.symm)
            clear hnext hfin hcl
            go_wp2
            go_ret
            exact ⟨ret_bool hF.out.symm, U3.out⟩
        · have hF := hid (hfin.out (hcl.out.symm.trans (Bool.true_or _)))
          clear hnext hfin hcl c3
          go_wp2
          go_ret
          exact ⟨ret_bool hF.out.symm, U3.out⟩
theorem MapF.look {w : World} {P : Program} {t k e : TypeId} {b n : Nat} {f : Lit → Option Value} (h : MapF w P k b n f) (K : Keyed P k) (ht : P.underlying t = some (.map k e)) {z : Value} (hz : (zeroValue e).run P w = .ok z w) {key : Value} {kl : Lit} (hkey : keyOf P k key = some kl) :
    (Instr.lookup t (.map (some b)) key true).run P w = .ok (.tuple #[(f kl).getD z, .bool (f kl).isSome]) w := by
  obtain ⟨D, h1, rfl⟩ := h
  obtain ⟨v, ps, hrun, hv⟩ := h1.look_ok K ht hz (zd := .held z) (zp := []) rfl hkey
  obtain ⟨e1, e2⟩ := look_view hv
  rw [hrun, e1, e2]
theorem MapF.len {w : World} {P : Program} {t k e : TypeId} {b n : Nat} {f : Lit → Option Value} (h : MapF w P k b n f) (K : Keyed P k) (ht : P.underlying t = some (.map k e)) {ks : List Lit} (hn : ks.Nodup) (hk : ∀ kl, kl ∈ ks ↔ (f kl).isSome = true) (ty : TypeId) :
    (Builtin.len_ #[t] ty #[.map (some b)]).run P w = .ok (.int .i64 ks.length) w := by
  obtain ⟨D, h1, rfl⟩ := h
  rw [h1.len ht ty, size_keys h1 K hn hk]
theorem MapF.drew {w : World} {P : Program} {k : TypeId} {b n : Nat} {f : Lit → Option Value} (h : MapF w P k b n f) : MapF w.drew P k b n f := h.kept rfl
theorem nm_short {n d : Nat} {l : List (El (n + 1))} (h : errS (n + 1) d l = 0) (i : Nat) : (nm i l).length ≤ 64 := by
  obtain ⟨_, _, h2⟩ := errS_props h
  unfold nm textE findE
  cases hf : l.find? (fun x => decide (x.1 = nameT i)) with
  | none => simp
  | some x => exact (h2 x (List.mem_of_find?_eq_some hf)).2.2.1
/-- The keys of an archive. -/
theorem ProA.keys {n : Nat} {A : List (List (El (n + 2)))} (hnd : (A.map (nm 3)).Nodup) : (A.map (fun l => keyS (nm 3 l))).Nodup := by
  rw [List.Nodup, List.pairwise_map] at hnd ⊢
  exact hnd.imp (fun h e => h (by injection e))
theorem out_len {n : Nat} {A : List (List (El (n + 1)))} (hnd : (A.map (nm 3)).Nodup) (s : By) : (outA A s).length = if s ∈ A.map (nm 3) then A.length - 1 else A.length := by
  unfold outA
  induction A with
  | nil => simp
  | cons o A ih =>
    rw [List.map_cons, List.nodup_cons] at hnd
    have ih := ih hnd.2
    by_cases h : nm 3 o = s
    · subst h
      rw [List.filter_cons_of_neg (by simp), ih, if_neg hnd.1, List.map_cons, if_pos List.mem_cons_self]; simp
    · rw [List.filter_cons_of_pos (by simpa using h), List.length_cons, ih, List.map_cons]
      by_cases h2 : s ∈ A.map (nm 3)
      · rw [if_pos h2, if_pos (List.mem_cons_of_mem _ h2), List.length_cons]
        have : 0 < A.length := by
          cases A with
          | nil => cases h2
          | cons _ _ => simp
        omega
      · rw [if_neg h2, if_neg (fun e => by rcases List.mem_cons.1 e with e | e; (· exact h e.symm); exact h2 e), List.length_cons]
end Go.Proofs.YtaokifbpakbgdaaGreatDoor

/- Package archive: isFullFor. -/
namespace Go.Proofs.YtaokifbpakbgdaaGreatDoor
open Go.RowKit Go.Maps

set_option maxRecDepth 20000 in
set_option maxHeartbeats 2000000 in
theorem isFullFor_any (n : Nat) (F Fd : Nat → Prop) (w : World) (a m dB : Nat) (T : Int) (A : List (List (El (n + 2)))) (l : List (El (n + 2))) (h : ProA w F n a m T A) (hd : DMk w Fd (n + 1) dB 24 (descG l)) (hnd : (A.map (nm 3)).Nodup) (hl : A.length ≤ 48) (hs : (nm 3 l).length ≤ 64) :
    Calls Tryz.prog 159 #[ptr a, .map (some dB)] w fun e w' => e = .returned (.bool (decide (48 ≤ (outA A (nm 3 l)).length))) ∧ Below w.heap.size w w' := by
  obtain ⟨h1, f, ps, hM, hP, _, _, hK⟩ := h
  obtain ⟨⟨a0, _⟩, _⟩ := h1.cells
  have hkey : keyOf Tryz.prog 9 (.string (bs (nm 3 l))) = some (keyS (nm 3 l)) := WideMaps.keyOf_string_mk Tryz.underlying9 (by rw [bs_size]; unfold maxLen; omega)
  have hlk := hM.look (Maps.string_keyed Tryz.underlying9) Tryz.underlying122 (Tryz.zeroValue131 _) hkey
  have hlk2 := hM.drew.look (Maps.string_keyed Tryz.underlying9) Tryz.underlying122 (Tryz.zeroValue131 _) hkey
  have uZ : Below w.heap.size w (w.alloc (.cells #[.map none, .int .i64 0] 131)).drew := Below.drew (Below.alloc (Below.refl _ _) (Nat.le_refl _) _)
  have hlk3 := (hM.kept (w' := (w.alloc (.cells #[.map none, .int .i64 0] 131)).drew) (uZ.block _ hM.lt)).look (Maps.string_keyed Tryz.underlying9) Tryz.underlying122 (Tryz.zeroValue131 _) hkey
  have c3 := hid (dvalue_any _ Fd (n + 1) dB 24 (descG l) 524312 (hd.up uZ) (by decide))
  have UZ := hid uZ
  have a2 : (w.alloc (.cells #[.map none, .int .i64 0] 131)).cell? ⟨a, 0, none⟩ = some (.map (some m)) := cell_keep (Below.heap_alloc _ _ _ (World.block_lt_of_cell? _ _ a0)) a0
  have c1 := hid (dvalue_any w Fd (n + 1) dB 24 (descG l) 524312 hd (by decide))
  have c2 := hid (dvalue_any w.drew Fd (n + 1) dB 24 (descG l) 524312 (hd.keep rfl (fun _ h => h) (fun _ _ _ => rfl)) (by decide))
  have hv3 := hid (valG_desc l 3)
  change Hid (valG (descG l) 524312 = nm 3 l) at hv3
  rw [hv3.out] at c1 c2 c3
  clear uZ
  have HM := hid hM
  have HP := hid hP
  have HK := hid hK
  have HN := hid hnd
  clear hM hP hK hd h1 hnd
  have hol := out_len HN.out (nm 3 l)
  have hlen : ∀ ty, (Builtin.len_ #[122] ty #[.map (some m)]).run Tryz.prog (w.alloc (.cells #[.map none, .int .i64 0] 131)).drew = .ok (.int .i64 A.length) (w.alloc (.cells #[.map none, .int .i64 0] 131)).drew := fun ty => by
    have := (HM.out.kept (w' := (w.alloc (.cells #[.map none, .int .i64 0] 131)).drew) (UZ.out.block _ HM.out.lt)).len (Maps.string_keyed Tryz.underlying9) Tryz.underlying122 (ProA.keys HN.out) (fun kl => by rw [HK.out kl, List.mem_map]; exact ⟨fun ⟨q, h1, h2⟩ => ⟨q, h1, h2.symm⟩, fun ⟨q, h1, h2⟩ => ⟨q, h1, h2.symm⟩⟩) ty
    rw [List.length_map] at this
    exact this
  have hin : (f (keyS (nm 3 l))).isSome = decide (nm 3 l ∈ A.map (nm 3)) := by
    rw [Bool.eq_iff_iff, HK.out, decide_eq_true_eq, List.mem_map]
    exact ⟨fun ⟨q, h1, h2⟩ => ⟨q, h1, by injection h2 with h2; exact h2.symm⟩, fun ⟨q, h1, h2⟩ => ⟨q, h1, by rw [h2]⟩⟩
  have hX := hid hin
  have HO := hid hol
  clear hin hol
  cases hf : f (keyS (nm 3 l)) with
  | some v =>
    obtain ⟨q, hq, hk⟩ := (HK.out (keyS (nm 3 l))).1 (by rw [hf]; rfl)
    obtain ⟨p, _, hfp, _⟩ := HP.out.find q hq
    rw [← hk, hf] at hfp
    obtain rfl := Option.some.inj hfp
    have hF := hid (show decide (48 ≤ (outA A (nm 3 l)).length) = false by
      have := hX.out
      rw [hf] at this
      rw [HO.out, if_pos (of_decide_eq_true this.symm)]
      exact decide_eq_false (by have := List.length_pos_of_mem hq; omega))
    rw [hf] at hlk hlk2 hlk3
    simp only [Option.getD_some, Option.isSome_some] at hlk hlk2 hlk3
    clear hfp hk hq
    go_enter Tryz.func159, Tryz.ntmps159
    go_wp2_with fail
    go_region_with (go_at_call 97; first | (refine c1.out.mono ?_; rintro e w1 ⟨rfl, rfl⟩) | (refine c2.out.mono ?_; rintro e w1 ⟨rfl, rfl⟩) | (refine c3.out.mono ?_; rintro e w1 ⟨rfl, rfl⟩))
    all_goals go_wp2
    all_goals go_ret
    all_goals exact ⟨ret_bool hF.out.symm, (Below.alloc (Below.drew (Below.refl _ _)) (Nat.le_refl _) _)⟩
  | none =>
    have hF := hid (show decide (48 ≤ (outA A (nm 3 l)).length) = decide (48 ≤ A.length) by
      have := hX.out
      rw [hf] at this
      rw [HO.out, if_neg (of_decide_eq_false this.symm)])
    rw [hf] at hlk hlk2 hlk3
    simp only [Option.getD_none, Option.isSome_none] at hlk hlk2 hlk3
    go_enter Tryz.func159, Tryz.ntmps159
    go_wp2_with fail
    go_region_with (go_at_call 97; first | (refine c1.out.mono ?_; rintro e w1 ⟨rfl, rfl⟩) | (refine c2.out.mono ?_; rintro e w1 ⟨rfl, rfl⟩) | (refine c3.out.mono ?_; rintro e w1 ⟨rfl, rfl⟩))
    all_goals
      go_wp2
      go_ret
      refine ⟨ret_bool ?_, UZ.out⟩
      rw [hF.out]
      by_cases h48 : 48 ≤ A.length <;> simp <;> omega
end Go.Proofs.YtaokifbpakbgdaaGreatDoor

/- Package archive: checkPlace, Delete, New. -/
namespace Go.Proofs.YtaokifbpakbgdaaGreatDoor
open Go.RowKit Go.Maps

/-- What checkPlace answers. -/
def plaE {n : Nat} (A : List (List (El (n + 1)))) (l : List (El (n + 1))) : Int := if nm 0 l = [] ∨ nm 1 l = [] ∨ nm 2 l = [] ∨ nm 3 l = [] then 7 else if (outA A (nm 3 l)).any (clash l) then 8 else if 48 ≤ (outA A (nm 3 l)).length then 9 else 0
theorem hasN_desc {n : Nat} (l : List (El (n + 2))) : hasN (descG l) = decide (¬ (nm 0 l = [] ∨ nm 1 l = [] ∨ nm 2 l = [] ∨ nm 3 l = [])) := by
  unfold hasN
  rw [valG_desc, valG_desc, valG_desc, valG_desc]
  exact decide_eq_decide.2 ⟨fun ⟨h0, h1, h2, h3⟩ h => by rcases h with h | h | h | h; (· exact h0 h); (· exact h1 h); (· exact h2 h); exact h3 h, fun h => ⟨fun e => h (Or.inl e), fun e => h (Or.inr (Or.inl e)), fun e => h (Or.inr (Or.inr (Or.inl e))), fun e => h (Or.inr (Or.inr (Or.inr e)))⟩⟩
theorem layE_eq {n : Nat} (A : List (List (El (n + 2)))) (l : List (El (n + 2))) : layE A l = if celE l ≠ 0 then celE l else plaE A l := by
  unfold layE desE celE plaE
  by_cases h1 : l.any bad1 = true
  · simp [h1]
  · by_cases h2 : l.any bad2 = true
    · simp [h1, h2]
    · by_cases h3 : nm 0 l = [] ∨ nm 1 l = [] ∨ nm 2 l = [] ∨ nm 3 l = []
      · simp [h1, h2, h3]
      · simp [h1, h2, h3]
set_option maxRecDepth 20000 in
theorem checkPlace_any (n : Nat) (F Fd : Nat → Prop) (w : World) (a m dB : Nat) (T : Int) (A : List (List (El (n + 2)))) (l : List (El (n + 2))) (h : ProA w F n a m T A) (hd : DMk w Fd (n + 1) dB 24 (descG l)) (hN : NamesV w) (hnd : (A.map (nm 3)).Nodup) (hl : A.length ≤ 48) (hs : (nm 3 l).length ≤ 64) :
    Calls Tryz.prog 96 #[ptr a, .map (some dB)] w fun e w' => e = .returned (.int .i64 (plaE A l)) ∧ Below w.heap.size w w' := by
  have c1 := hid (hasNames_any w Fd (n + 1) dB 24 (descG l) hd hN)
  have c2 := hid (isElsewhere_any n F Fd w a m dB T A l h hd hnd)
  have H := hid h
  have HD := hid hd
  have HN := hid hnd
  have hh := hid (hasN_desc l)
  clear h hd hN hnd
  go_enter Tryz.func96, Tryz.ntmps96
  go_wp2_with fail
  go_at_call 157
  refine c1.out.mono ?_
  rintro e w1 ⟨rfl, rfl⟩
  rw [hh.out]
  by_cases h0 : nm 0 l = [] ∨ nm 1 l = [] ∨ nm 2 l = [] ∨ nm 3 l = []
  · have hF := hid (show plaE A l = 7 by rw [plaE, if_pos h0])
    rw [decide_eq_false (fun h => h h0)]
    clear h0 c1 c2
    go_wp2
    go_ret
    exact ⟨ret_int hF.out.symm, Below.refl _ _⟩
  · have hF := hid (show plaE A l = if (outA A (nm 3 l)).any (clash l) then 8 else if 48 ≤ (outA A (nm 3 l)).length then 9 else 0 by rw [plaE, if_neg h0])
    rw [decide_eq_true h0]
    clear h0 c1
    go_wp2_with fail
    go_at_call 158
    refine c2.out.mono ?_
    clear c2
    rintro e w2 ⟨rfl, u2⟩
    have c3 := hid (isFullFor_any n F Fd w2 a m dB T A l (H.out.up u2) (HD.out.up u2) HN.out hl hs)
    have U2 := hid u2
    clear u2
    generalize (outA A (nm 3 l)).any (clash l) = cl at hF
    cases cl
    · have hF2 := hid (hF.out.trans (if_neg (by decide)))
      clear hF
      go_wp2_with fail
      go_at_call 159
      refine c3.out.mono ?_
      clear c3
      rintro e w3 ⟨rfl, u3⟩
      have U3 := hid (U2.out.trans (u3.mono U2.out.size))
      clear u3
      by_cases h48 : 48 ≤ (outA A (nm 3 l)).length
      · have hF3 := hid (hF2.out.trans (if_pos h48))
        rw [decide_eq_true h48]
        clear h48 hF2
        go_wp2
        go_ret
        exact ⟨ret_int hF3.out.symm, U3.out⟩
      · have hF3 := hid (hF2.out.trans (if_neg h48))
        rw [decide_eq_false h48]
        clear h48 hF2
        go_wp2
        go_ret
        exact ⟨ret_int hF3.out.symm, U3.out⟩
    · have hF2 := hid (hF.out.trans (if_pos rfl))
      clear hF c3
      go_wp2
      go_ret
      exact ⟨ret_int hF2.out.symm, U2.out⟩
theorem MapF.tight {w : World} {P : Program} {k : TypeId} {b n : Nat} {f : Lit → Option Value} (h : MapF w P k b n f) (K : Keyed P k) {ks : List Lit} (hn : ks.Nodup) (hk : ∀ kl, kl ∈ ks ↔ (f kl).isSome = true) : MapF w P k b ks.length f := by
  obtain ⟨D, h1, rfl⟩ := h
  have e := size_keys h1 K hn hk
  obtain ⟨es, clock, hb, F, _, hD⟩ := h1
  refine ⟨D, ⟨es, clock, hb, F, ?_, hD⟩, rfl⟩
  rw [hD] at e
  have e1 : es.size = ((es.toList.map (WideElems.rg P k heldR)).foldr DataW.insert []).length := by rw [length_sorted]; simp
  rw [e1]
  exact Nat.le_of_eq e
theorem Pics.out {w : World} {F : Nat → Prop} {n : Nat} {f f' : Lit → Option Value} {s : By} (hf : ∀ t, t ≠ s → f' (keyS t) = f (keyS t)) : ∀ {A : List (List (El (n + 2)))} {ps : List (Nat × Int)}, Pics w F n f A ps → ∃ qs, Pics w F n f' (outA A s) qs ∧ qs.Sublist ps
  | [], [], _ => ⟨[], trivial, List.Sublist.slnil⟩
  | [], _ :: _, h => h.elim
  | _ :: _, [], h => h.elim
  | l0 :: A, p :: ps, h => by
    obtain ⟨h1, h2, h3, h4⟩ := h
    obtain ⟨qs, q1, q2⟩ := Pics.out hf h4
    by_cases e : nm 3 l0 = s
    · refine ⟨qs, ?_, q2.cons p⟩
      unfold outA
      rw [List.filter_cons_of_neg (by simpa using e)]
      exact q1
    · refine ⟨p :: qs, ?_, q2.cons_cons p⟩
      unfold outA
      rw [List.filter_cons_of_pos (by simpa using e)]
      exact ⟨by rw [hf _ e]; exact h1, h2, h3, q1⟩
theorem out_keys {n : Nat} (A : List (List (El (n + 1)))) (s : By) : (outA A s).map (nm 3) = (A.map (nm 3)).filter (fun t => decide (t ≠ s)) := by
  unfold outA
  induction A with
  | nil => rfl
  | cons o A ih =>
    by_cases h : nm 3 o = s
    · rw [List.filter_cons_of_neg (by simpa using h), List.map_cons, List.filter_cons_of_neg (by simpa using h), ih]
    · rw [List.filter_cons_of_pos (by simpa using h), List.map_cons, List.map_cons, List.filter_cons_of_pos (by simpa using h), ih]
theorem out_nodup {n : Nat} {A : List (List (El (n + 1)))} (h : (A.map (nm 3)).Nodup) (s : By) : ((outA A s).map (nm 3)).Nodup := by
  rw [out_keys]; exact h.filter _
theorem keyS_iff {n : Nat} {A : List (List (El (n + 1)))} {k : Lit} : k ∈ A.map (fun l => keyS (nm 3 l)) ↔ ∃ l ∈ A, k = keyS (nm 3 l) := by
  rw [List.mem_map]
  exact ⟨fun ⟨q, h1, h2⟩ => ⟨q, h1, h2.symm⟩, fun ⟨q, h1, h2⟩ => ⟨q, h1, h2.symm⟩⟩
set_option maxRecDepth 20000 in
set_option maxHeartbeats 1000000 in
theorem Delete_any (n : Nat) (F : Nat → Prop) (w : World) (a m : Nat) (T : Int) (A : List (List (El (n + 2)))) (s : By) (h : ProA w F n a m T A) (hF : ∀ j, F j → j < w.heap.size ∧ j ≠ m) (hnd : (A.map (nm 3)).Nodup) (hl : A.length ≤ 48) (hs : s.length ≤ maxLen) :
    Calls Tryz.prog 50 #[ptr a, .string (bs s)] w fun e w' => e = .returned (.bool (decide ((outA A s).length < A.length))) ∧ UpB m w w' ∧ ProA w' (Nw F w w') n a m T (outA A s) := by
  have hm := h.mlt
  obtain ⟨h1, f, ps, hM, hP, hpw, hpT, hK⟩ := h
  obtain ⟨⟨a0, _⟩, _⟩ := h1.cells
  have hkey : keyOf Tryz.prog 9 (.string (bs s)) = some (keyS s) := WideMaps.keyOf_string_mk Tryz.underlying9 (by rw [bs_size]; exact hs)
  have hlk := hM.look (Maps.string_keyed Tryz.underlying9) Tryz.underlying122 (Tryz.zeroValue131 _) hkey
  have hin : decide ((outA A s).length < A.length) = (f (keyS s)).isSome := by
    rw [Bool.eq_iff_iff, decide_eq_true_eq, hK, out_len hnd]
    constructor
    · intro h
      by_cases hc : s ∈ A.map (nm 3)
      · obtain ⟨q, h1, h2⟩ := List.mem_map.1 hc
        exact ⟨q, h1, by rw [h2]⟩
      · rw [if_neg hc] at h; omega
    · rintro ⟨q, h1, h2⟩
      have hc : s ∈ A.map (nm 3) := List.mem_map.2 ⟨q, h1, by injection h2 with h2; exact h2.symm⟩
      rw [if_pos hc]
      have := List.length_pos_of_mem h1
      omega
  have H1 := hid h1
  have HM := hid hM
  have HP := hid hP
  have HK := hid hK
  have HN := hid hnd
  have HF := hid hF
  have HI := hid hin
  have HW := hid hpw
  have HT := hid hpT
  have HKy := hid hkey
  clear h1 hM hP hK hnd hF hin hpw hpT hkey
  have hval : ∃ d t, (f (keyS s)).getD (.agg #[.map none, .int .i64 0]) = .agg #[.map d, .int .i64 t] := by
    cases hf : f (keyS s) with
    | none => exact ⟨_, _, rfl⟩
    | some v =>
      obtain ⟨q, hq, hk⟩ := (HK.out (keyS s)).1 (by rw [hf]; rfl)
      obtain ⟨p, _, hfp, _⟩ := HP.out.find q hq
      rw [← hk, hf] at hfp
      obtain rfl := Option.some.inj hfp
      exact ⟨_, _, rfl⟩
  obtain ⟨d0, t0, hv0⟩ := hval
  rw [hv0] at hlk
  clear hv0
  have uZ : Below w.heap.size w (w.alloc (.cells #[.map d0, .int .i64 t0] 131)) := Below.alloc (Below.refl _ _) (Nat.le_refl _) _
  have a2 : (w.alloc (.cells #[.map d0, .int .i64 t0] 131)).cell? ⟨a, 0, none⟩ = some (.map (some m)) := cell_keep (Below.heap_alloc _ _ _ (World.block_lt_of_cell? _ _ a0)) a0
  have M2 := hid (HM.out.kept (uZ.block _ hm))
  have UZ := hid uZ
  clear uZ
  go_enter Tryz.func50, Tryz.ntmps50
  go_wp2_with (at_delete; refine wpList_delete_F rfl _ _ 122 9 rfl 131 (Maps.string_keyed Tryz.underlying9) Tryz.underlying122 m A.length f rfl M2.out _ (keyS s) rfl HKy.out trivial ?_)
  intro w3 hM3 hg3
  have U3 : UpB m w w3 := (UpB.of_below UZ.out).grown hg3 (fun k e => by cases e; exact Or.inl rfl)
  have hkeys : ∀ kl, kl ∈ (outA A s).map (fun l => keyS (nm 3 l)) ↔ (upd f (keyS s) none kl).isSome = true := fun kl => by
    rw [keyS_iff]
    unfold upd
    by_cases e : kl = keyS s
    · rw [if_pos ((same_iff (show WideAt.IsKeyLit (keyS s) from trivial)).2 e)]
      constructor
      · rintro ⟨q, h1, h2⟩
        have := (List.mem_filter.1 h1).2
        rw [e] at h2
        injection h2 with h2
        simp [h2] at this
      · intro h; cases h
    · rw [if_neg (fun h => e ((same_iff (show WideAt.IsKeyLit (keyS s) from trivial)).1 h)), HK.out]
      constructor
      · rintro ⟨q, h1, h2⟩
        exact ⟨q, (List.mem_filter.1 h1).1, h2⟩
      · rintro ⟨q, h1, h2⟩
        exact ⟨q, List.mem_filter.2 ⟨h1, by simpa using fun e2 => e (by rw [h2, e2])⟩, h2⟩
  have hM4 := hM3.tight (Maps.string_keyed Tryz.underlying9) (ProA.keys (out_nodup HN.out s)) hkeys
  rw [List.length_map] at hM4
  have hne : ∀ j, F j → j < w.heap.size → w3.heap[j]? = w.heap[j]? := fun j hj hj2 => U3.block hj2 (HF.out j hj).2
  have ham : a ≠ m := fun e => by
    subst e
    obtain ⟨D, ⟨es, clock, hb, _⟩, _⟩ := HM.out
    have h2 := H1.out
    unfold Arc2 at h2
    rw [hb] at h2
    injection h2 with h2
    cases h2
  have P3 := hid (show ProA w3 (Nw F w w3) n a m T (outA A s) by
    obtain ⟨qs, q1, q2⟩ := (HP.out.keep (w' := w3) (F' := Nw F w w3) (fun j hj => Or.inl hj) hne).out (f' := upd f (keyS s) none) (s := s) (fun t ht => by
      unfold upd
      rw [if_neg (fun h => ht (by have := (same_iff (show WideAt.IsKeyLit (keyS s) from trivial)).1 h; injection this))])
    refine ⟨H1.out.keep (U3.block H1.out.lt ham), _, qs, hM4, q1, ?_, fun p hp => HT.out p (q2.subset hp), fun k => by rw [← hkeys, keyS_iff]⟩
    exact HW.out.sublist (q2.map _))
  have U3' := hid U3
  clear hM3 hg3 hM4 hkeys hne U3
  go_wp2
  go_ret
  exact ⟨ret_bool HI.out.symm, U3'.out, P3.out⟩
end Go.Proofs.YtaokifbpakbgdaaGreatDoor
