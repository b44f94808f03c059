/-
  Package archive: descriptions as maps in memory; value, describe.
-/
import Derived.Test.YtaokifbpakbgdaaGreatDoorArQ1
import Derived.Test.YtaokifbpakbgdaaGreatDoorMapF
import Derived.Maps.OwnOps
namespace Go.Proofs.YtaokifbpakbgdaaGreatDoor
open Go.RowKit Go.Maps

/-- What stands at a tag. -/
def cellD (w : World) (F : Nat → Prop) (n : Nat) : Option Value → Option (El (n + 1)) → Prop
  | none, none => True
  | some v, some x => ∃ iv, v = elV x iv ∧ RdI w F n iv x.2.2.2
  | _, _ => False
theorem cellD.keep {w w' : World} {F F' : Nat → Prop} {n : Nat} {o : Option Value} {x : Option (El (n + 1))} (h : cellD w F n o x) (hF : ∀ j, F j → F' j) (hk : ∀ j, F j → j < w.heap.size → w'.heap[j]? = w.heap[j]?) : cellD w' F' n o x := by
  match o, x, h with
  | none, none, _ => trivial
  | some v, some x, ⟨iv, h1, h2⟩ => exact ⟨iv, h1, h2.keep hF hk⟩
/-- Block b is a description of at most m entries. -/
def DMk (w : World) (F : Nat → Prop) (n b m : Nat) (g : Int → Option (El (n + 1))) : Prop := ∃ f, MapF w Tryz.prog 3 b m f ∧ ∀ t, cellD w F n (f (.int .i64 t)) (g t)
theorem DMk.keep {w w' : World} {F F' : Nat → Prop} {n b m : Nat} {g : Int → Option (El (n + 1))} (h : DMk w F n b m g) (hb : w'.heap[b]? = w.heap[b]?) (hF : ∀ j, F j → F' j) (hk : ∀ j, F j → j < w.heap.size → w'.heap[j]? = w.heap[j]?) : DMk w' F' n b m g := by
  obtain ⟨f, h1, h2⟩ := h
  exact ⟨f, h1.kept hb, fun t => (h2 t).keep hF hk⟩
theorem DMk.lt {w : World} {F : Nat → Prop} {n b m : Nat} {g : Int → Option (El (n + 1))} (h : DMk w F n b m g) : b < w.heap.size := by
  obtain ⟨f, h1, _⟩ := h
  exact h1.lt
def valG {n : Nat} (g : Int → Option (El (n + 1))) (t : Int) : By := match g t with
  | some x => x.2.2.1
  | none => []
theorem int_wf {t : Int} (h : -9223372036854775808 ≤ t ∧ t ≤ 9223372036854775807) : (Lit.int .i64 t).wf = true := by
  have h1 : IntKind.i64.min = -9223372036854775808 := by decide
  have h2 : IntKind.i64.max = 9223372036854775807 := by decide
  simp only [Lit.wf, h1, h2, Bool.and_eq_true, decide_eq_true_eq]
  exact h
theorem field_value (w : World) (t : Int) (k v : ByteArray) (iv : Value) : (Instr.field 73 (.agg #[.int .i64 t, .string k, .string v, iv]) 2).run Tryz.prog w = .ok (.string v) w := by kernel_rfl
set_option maxRecDepth 20000 in
theorem dvalue_any (w : World) (F : Nat → Prop) (n b m : Nat) (g : Int → Option (El (n + 1))) (t : Int) (h : DMk w F n b m g) (ht : -9223372036854775808 ≤ t ∧ t ≤ 9223372036854775807) :
    Calls Tryz.prog 97 #[.map (some b), .int .i64 t] w fun e w' => e = .returned (.string (bs (valG g t))) ∧ w' = w := by
  obtain ⟨f, hM, hc⟩ := h
  have hc := hc t
  have hwf := int_wf ht
  have HM := hid hM
  clear hM
  unfold valG
  have hfv := field_value w
  cases hg : g t with
  | none =>
    cases hf : f (.int .i64 t) with
    | some v => rw [hg, hf] at hc; exact hc.elim
    | none =>
      clear hc
      go_enter Tryz.func97, Tryz.ntmps97
      go_wp2_with (at_lookup; refine wpList_lookup_F1 rfl _ _ 127 rfl 3 73 (Maps.int_keyed Tryz.underlying3) Tryz.underlying127 (Tryz.zeroValue73 _) b m f rfl HM.out _ (.int .i64 t) rfl (Maps.keyOf_int_mk Tryz.underlying3 hwf) ?_)
      go_ret
      exact ⟨rfl, rfl⟩
  | some x =>
    cases hf : f (.int .i64 t) with
    | none => rw [hg, hf] at hc; exact hc.elim
    | some v =>
      rw [hg, hf] at hc
      obtain ⟨iv, rfl, _⟩ := hc
      simp only [elV] at hf
      go_enter Tryz.func97, Tryz.ntmps97
      go_wp2_with (at_lookup; refine wpList_lookup_F1 rfl _ _ 127 rfl 3 73 (Maps.int_keyed Tryz.underlying3) Tryz.underlying127 (Tryz.zeroValue73 _) b m f rfl HM.out _ (.int .i64 t) rfl (Maps.keyOf_int_mk Tryz.underlying3 hwf) ?_)
      go_ret
      exact ⟨rfl, rfl⟩
def clE {n : Nat} (x : El (n + 2)) : El (n + 2) := (x.1, x.2.1, x.2.2.1, x.2.2.2.map wordsL)
/-- A description: what of a data set is of use, by the tags. -/
def descG {n : Nat} (l : List (El (n + 2))) (t : Int) : Option (El (n + 2)) := if isKept t = true then (findE l t).map clE else none
def updG {n : Nat} (g : Int → Option (El (n + 1))) (t : Int) (x : El (n + 1)) (s : Int) : Option (El (n + 1)) := if s = t then some x else g s
theorem findE_snoc {n : Nat} (l : List (El (n + 1))) (x : El (n + 1)) (t : Int) : findE (l ++ [x]) t = (findE l t).or (if x.1 = t then some x else none) := by
  unfold findE
  rw [List.find?_append]
  congr 1
  rw [List.find?_cons]
  by_cases e : x.1 = t
  · rw [decide_eq_true e, if_pos e]
  · rw [decide_eq_false e, if_neg e]; rfl
theorem findE_none {n : Nat} {l : List (El (n + 1))} {t : Int} (h : ∀ y ∈ l, y.1 ≠ t) : findE l t = none := by
  unfold findE
  rw [List.find?_eq_none]
  intro y hy
  simpa using h y hy
theorem descG_take {n : Nat} {l : List (El (n + 2))} (hp : l.Pairwise (fun x y => x.1 < y.1)) {k : Nat} (hk : k < l.length) : descG (l.take (k + 1)) = if isKept l[k].1 = true then updG (descG (l.take k)) l[k].1 (clE l[k]) else descG (l.take k) := by
  have hno : ∀ y ∈ l.take k, y.1 ≠ l[k].1 := fun y hy => by
    rw [← List.take_append_drop k l, List.drop_eq_getElem_cons hk] at hp
    have := (List.pairwise_append.1 hp).2.2 y hy l[k] List.mem_cons_self
    omega
  funext t
  rw [List.take_succ_eq_append_getElem hk]
  unfold descG
  rw [findE_snoc]
  generalize l[k] = x at hno
  by_cases hx : isKept x.1 = true
  · rw [if_pos hx]
    unfold updG
    by_cases e : x.1 = t
    · subst e
      rw [if_pos hx, findE_none hno, if_pos rfl, if_pos rfl]; rfl
    · have e' : ¬ t = x.1 := fun h => e h.symm
      simp only [if_neg e, Option.or_none, if_neg e']
  · rw [if_neg hx]
    by_cases e : x.1 = t
    · subst e
      rw [if_neg hx, if_neg hx]
    · rw [if_neg e, Option.or_none]
theorem DMk.put {w w' : World} {F F' : Nat → Prop} {n b m' : Nat} {f : Lit → Option Value} {g : Int → Option (El (n + 1))} (hc : ∀ t, cellD w F n (f (.int .i64 t)) (g t)) (hF : ∀ j, F j → F' j) (hk : ∀ j, F j → j < w.heap.size → w'.heap[j]? = w.heap[j]?) {x : El (n + 1)} {iv : Value}
    (hM : MapF w' Tryz.prog 3 b m' (upd f (.int .i64 x.1) (some (elV x iv)))) (hi : RdI w' F' n iv x.2.2.2) : DMk w' F' n b m' (updG g x.1 x) := by
  refine ⟨_, hM, fun t => ?_⟩
  unfold upd updG
  by_cases e : t = x.1
  · subst e
    rw [if_pos ((same_iff (show WideAt.IsKeyLit (.int .i64 x.1) from trivial)).2 rfl), if_pos rfl]
    exact ⟨iv, rfl, hi⟩
  · rw [if_neg (fun h => e (by have := (same_iff (show WideAt.IsKeyLit (.int .i64 x.1) from trivial)).1 h; injection this)), if_neg e]
    exact (hc t).keep hF hk
set_option maxRecDepth 20000 in
set_option maxHeartbeats 1000000 in
theorem describe_any (n : Nat) (F : Nat → Prop) (w : World) (v : Value) (l : List (El (n + 2))) (h : Rd w F (n + 2) v l) (hF : ∀ j, F j → j < w.heap.size) (hl : l.length ≤ 24) (hp : l.Pairwise (fun x y => x.1 < y.1))
    (hx : ∀ x ∈ l, (0 ≤ x.1 ∧ x.1 ≤ 4294967295) ∧ x.2.2.2.length ≤ 8 ∧ ∀ s ∈ x.2.2.2, s.length ≤ 24) :
    Calls Tryz.prog 95 #[v] w fun e w' => e = .returned (.map (some w.heap.size)) ∧ Below w.heap.size w w' ∧ DMk w' (fun j => F j ∨ (w.heap.size < j ∧ j < w'.heap.size)) (n + 1) w.heap.size 24 (descG l) := by
  obtain ⟨ad, cap, rfl⟩ := h.slice
  have H := hid h
  have HF := hid hF
  have HP := hid hp
  have HX := hid hx
  clear h hF hp hx
  have hmm := @run_makeMap Tryz.prog
  go_enter Tryz.func95, Tryz.ntmps95
  go_wp2_with fail
  go_loopw [9] (fun i wr => ∃ k : Nat, k ≤ l.length ∧ i = .int .i64 k ∧ Hid (DMk wr (fun j => F j ∨ (w.heap.size < j ∧ j < wr.heap.size)) (n + 1) w.heap.size k (descG (l.take k))) ∧ Hid (Below w.heap.size w wr)) (fun i _ => l.length - (intOf i).toNat)
  case atStart => exact ⟨0, Nat.zero_le _, rfl, ⟨_, MapF.made w _ _, fun t => by unfold descG; rw [List.take_zero]; split <;> trivial⟩, Below.alloc (Below.refl _ _) (Nat.le_refl _) _⟩
  case round =>
    obtain ⟨k, hk, rfl, hD, hU⟩ := hrel
    by_cases hkl : k < l.length
    · have hat := hid ((H.out.up hU.out).at (List.getElem?_eq_getElem hkl))
      obtain ⟨a, ad2, cap2, rfl, _, c0, c1, c2, c3, hrd⟩ := hat.out
      have hxk := hid (HX.out _ (List.getElem_mem hkl))
      have hst := hid (descG_take HP.out hkl)
      have hrd2 := hid hrd
      clear hrd hat
      generalize l[k] = x at c0 c1 c2 c3 hrd2 hst hxk
      generalize descG (l.take k) = g at hD hst
      have u0 : Below wr.heap.size wr (wr.alloc (.cells #[.int .i64 x.1, .string (bs x.2.1), .string (bs x.2.2.1), .slice ad2 x.2.2.2.length cap2] 73)) := Below.alloc (Below.refl _ _) (Nat.le_refl _) _
      have hX := Four.new wr (.int .i64 x.1) (.string (bs x.2.1)) (.string (bs x.2.2.1)) (.slice ad2 x.2.2.2.length cap2)
      go_wp2_with fail
      go_at_call 155
      refine (isKept_any _ x.1).mono ?_
      rintro e w1 ⟨rfl, rfl⟩
      have hlo := hU.out.size
      have hDl := hD.out.lt
      by_cases hkp : isKept x.1 = true
      · have hst2 := hid (hst.out.trans (if_pos hkp))
        rw [hkp]
        clear hst hkp
        go_wp2_with fail
        go_at_call 156
        refine (aparts_any n F _ _ x.2.2.2 (hrd2.out.up u0) (fun j hj => Nat.lt_of_lt_of_le (HF.out j hj) (Nat.le_trans hlo u0.size)) hxk.out.2.1 hxk.out.2.2).mono ?_
        rintro e w2 ⟨v2, bl, rfl, u2, r2, n2⟩
        obtain ⟨ad3, cap3, hv3⟩ := r2.slice
        rw [List.length_map] at hv3
        subst hv3
        have hX2 := (hX.keep (u2.block _ (by simp))).cells
        obtain ⟨⟨x0, x1, x2, x3⟩, s0, s1, s2, s3⟩ := hX2
        have u02 := u0.trans (u2.mono u0.size)
        obtain ⟨f, q1, q2⟩ := id hD.out
        have hz0 : wr.heap.size + 1 ≤ w2.heap.size := by simpa using u2.size
        have hsame := hid (fun j (hj : j < wr.heap.size) => (Below.heap_setCell w2 ⟨wr.heap.size, 3, none⟩ (.slice ad3 x.2.2.2.length cap3) j (by simp; omega)).trans (u02.block j hj))
        have hM3 := hid (q1.kept (hsame.out _ hDl))
        have RI := hid (rdI_cp (F' := fun j => F j ∨ (wr.heap.size < j ∧ j < w2.heap.size)) r2 u2 (fun j hj => Or.inl hj) (fun j hj => Or.inr ⟨by have := (n2.2 j hj).1; simp at this; omega, (n2.2 j hj).2⟩))
        have U3 := hid ((hU.out.trans (u02.mono hlo)).setCell (p := ⟨wr.heap.size, 3, none⟩) hlo (.slice ad3 x.2.2.2.length cap3))
        have Q2 := hid q2
        have hwf := int_wf (t := x.1) (by have := hxk.out.1; omega)
        clear u0 u2 u02 r2 n2 q1 q2 hX c0 c1 c2 c3
        go_wp2_with (at_mapUpdate; refine wpList_update_F rfl _ _ _ 127 rfl 3 73 (Maps.int_keyed Tryz.underlying3) Tryz.underlying127 w.heap.size k f rfl hM3.out (by unfold maxLen; omega) _ _ (.int .i64 x.1) rfl rfl (Maps.keyOf_int_mk Tryz.underlying3 hwf) trivial ?_)
        intro w4 hM4 hg4
        have hz4 := hg4.size
        rw [World.size_setCell] at hz4
        have same4 := hid (fun j (hj : j < w2.heap.size) (h1 : j ≠ w.heap.size) (h2 : j ≠ wr.heap.size) => (hg4.block j (by simpa using hj) (fun e => h1 (by simpa using e))).trans (Below.heap_setCell w2 ⟨wr.heap.size, 3, none⟩ (.slice ad3 x.2.2.2.length cap3) j h2))
        have U4 := hid (U3.out.grown hg4 U3.out.size (fun k e => by cases e; exact Nat.le_refl _))
        have hne : Hid (∀ j, (F j ∨ (w.heap.size < j ∧ j < wr.heap.size)) → j ≠ w.heap.size) := fun j hj => by
          rcases hj with hj | hj
          · have := HF.out j hj
            omega
          · omega
        have hne2 : Hid (∀ j, (F j ∨ (wr.heap.size < j ∧ j < w2.heap.size)) → j ≠ w.heap.size ∧ j ≠ wr.heap.size) := fun j hj => by
          rcases hj with hj | hj
          · have := HF.out j hj
            omega
          · omega
        have D4 := hid (DMk.put (w := wr) (w' := w4) (F' := fun j => F j ∨ (w.heap.size < j ∧ j < w4.heap.size)) (x := clE x) Q2.out (fun j hj => by rcases hj with hj | hj; (· exact Or.inl hj); exact Or.inr ⟨hj.1, by omega⟩)
          (fun j hj hj2 => (hg4.block j (by simp; omega) (fun e => hne.out j hj (by simpa using e))).trans (hsame.out j hj2)) hM4
          (RI.out.keep (fun j hj => by rcases hj with hj | hj; (· exact Or.inl hj); exact Or.inr ⟨by omega, by omega⟩) (fun j hj hj2 => same4.out j hj2 (hne2.out j hj).1 (hne2.out j hj).2)))
        clear hM4 hg4
        go_wp2
        go_roundw
        case rel =>
          refine ⟨k + 1, by omega, by go_num, ?_, U4⟩
          unfold Hid
          rw [hst2.out]
          exact D4.out
        case measure => simp [intOf]; omega
      · have hst2 := hid (hst.out.trans (if_neg hkp))
        have hkp2 : isKept x.1 = false := by simpa using hkp
        rw [hkp2]
        clear hst hkp hkp2
        go_wp2
        go_roundw
        case rel => 
          refine ⟨k + 1, by omega, by go_num, ?_, hU.out.trans (u0.mono hlo)⟩
          unfold Hid
          rw [hst2.out]
          obtain ⟨f, q1, q2⟩ := hD.out.keep (F' := fun j => F j ∨ (w.heap.size < j ∧ j < (wr.heap.size + 1))) (u0.block _ hDl) (fun j hj => by rcases hj with hj | hj; (· exact Or.inl hj); exact Or.inr ⟨hj.1, by omega⟩) (fun j _ hj => u0.block j hj)
          exact ⟨f, q1.mono (Nat.le_succ _), by simpa using q2⟩
        case measure => simp [intOf]; omega
    · have hall : l.take k = l := List.take_of_length_le (by omega)
      have O := hid hD.out
      rw [hall] at O
      clear hD hall
      go_wp2
      go_ret
      obtain ⟨f, q1, q2⟩ := O.out
      exact ⟨rfl, hU.out, f, q1.mono (by omega), q2⟩
end Go.Proofs.YtaokifbpakbgdaaGreatDoor
