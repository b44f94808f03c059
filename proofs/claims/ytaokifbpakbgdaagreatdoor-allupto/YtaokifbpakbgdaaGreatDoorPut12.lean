/-
  Several texts in one; what each one has stands at its head.
-/
import Derived.Test.YtaokifbpakbgdaaGreatDoorPut11
import Derived.RangeFuncNested
import Derived.RangeFuncBound
import Derived.RangeFuncCalls
import Derived.RangeFuncLeaves
import Derived.Shelf.Abstract
import Derived.OwnWalkIn
import Derived.TacticsInMore
import Derived.LoopNIn
import Derived.LoopIn
import Derived.Maps.OwnIn
import Derived.Sort.MapsRangeIn
import Derived.Test.YtaokifbpakbgdaaGreatDoorPut2
/- Package archive: checkPlace, Delete, New. -/
namespace Go.Proofs.YtaokifbpakbgdaaGreatDoor
open Go.RowKit Go.Maps

/-- What checkPlace answers. -/
def plaE {n : Nat} (A : List (List (El (n + 1)))) (l : List (El (n + 1))) : Int := if nm 0 l = [] ∨ nm 1 l = [] ∨ nm 2 l = [] ∨ nm 3 l = [] then 7 else if (outA A (nm 3 l)).any (clash l) then 8 else if 48 ≤ (outA A (nm 3 l)).length then 9 else 0
theorem hasN_desc {n : Nat} (l : List (El (n + 2))) : hasN (descG l) = decide (¬ (nm 0 l = [] ∨ nm 1 l = [] ∨ nm 2 l = [] ∨ nm 3 l = [])) := by
  unfold hasN
  rw [valG_desc, valG_desc, valG_desc, valG_desc]
  exact decide_eq_decide.2 ⟨fun ⟨h0, h1, h2, h3⟩ h => by rcases h with h | h | h | h; (· exact h0 h); (· exact h1 h); (· exact h2 h); exact h3 h, fun h => ⟨fun e => h (Or.inl e), fun e => h (Or.inr (Or.inl e)), fun e => h (Or.inr (Or.inr (Or.inl e))), fun e => h (Or.inr (Or.inr (Or.inr e)))⟩⟩
theorem layE_eq {n : Nat} (A : List (List (El (n + 2)))) (l : List (El (n + 2))) : layE A l = if celE l ≠ 0 then celE l else plaE A l := by
  unfold layE desE celE plaE
  by_cases h1 : l.any bad1 = true
  · simp [h1]
  · by_cases h2 : l.any bad2 = true
    · simp [h1, h2]
    · by_cases h3 : nm 0 l = [] ∨ nm 1 l = [] ∨ nm 2 l = [] ∨ nm 3 l = []
      · simp [h1, h2, h3]
      · simp [h1, h2, h3]
set_option maxRecDepth 20000 in
theorem checkPlace_any (n : Nat) (F Fd : Nat → Prop) (w : World) (a m dB : Nat) (T : Int) (A : List (List (El (n + 2)))) (l : List (El (n + 2))) (h : ProA w F n a m T A) (hd : DMk w Fd (n + 1) dB 24 (descG l)) (hN : NamesV w) (hnd : (A.map (nm 3)).Nodup) (hl : A.length ≤ 48) (hs : (nm 3 l).length ≤ 64) :
    Calls Tryz.prog 96 #[ptr a, .map (some dB)] w fun e w' => e = .returned (.int .i64 (plaE A l)) ∧ Below w.heap.size w w' := by
  have c1 := hid (hasNames_any w Fd (n + 1) dB 24 (descG l) hd hN)
  have c2 := hid (isElsewhere_any n F Fd w a m dB T A l h hd hnd)
  have H := hid h
  have HD := hid hd
  have HN := hid hnd
  have hh := hid (hasN_desc l)
  clear h hd hN hnd
  go_enter Tryz.func96, Tryz.ntmps96
  go_wp2_with fail
  go_at_call 157
  refine c1.out.mono ?_
  rintro e w1 ⟨rfl, rfl⟩
  rw [hh.out]
  by_cases h0 : nm 0 l = [] ∨ nm 1 l = [] ∨ nm 2 l = [] ∨ nm 3 l = []
  · have hF := hid (show plaE A l = 7 by rw [plaE, if_pos h0])
    rw [decide_eq_false (fun h => h h0)]
    clear h0 c1 c2
    go_wp2
    go_ret
    exact ⟨ret_int hF.out.symm, Below.refl _ _⟩
  · have hF := hid (show plaE A l = if (outA A (nm 3 l)).any (clash l) then 8 else if 48 ≤ (outA A (nm 3 l)).length then 9 else 0 by rw [plaE, if_neg h0])
    rw [decide_eq_true h0]
    clear h0 c1
    go_wp2_with fail
    go_at_call 158
    refine c2.out.mono ?_
    clear c2
    rintro e w2 ⟨rfl, u2⟩
    have c3 := hid (isFullFor_any n F Fd w2 a m dB T A l (H.out.up u2) (HD.out.up u2) HN.out hl hs)
    have U2 := hid u2
    clear u2
    generalize (outA A (nm 3 l)).any (clash l) = cl at hF
    cases cl
    · have hF2 := hid (hF.out.trans (if_neg (by decide)))
      clear hF
      go_wp2_with fail
      go_at_call 159
      refine c3.out.mono ?_
      clear c3
      rintro e w3 ⟨rfl, u3⟩
      have U3 := hid (U2.out.trans (u3.mono U2.out.size))
      clear u3
      by_cases h48 : 48 ≤ (outA A (nm 3 l)).length
      · have hF3 := hid (hF2.out.trans (if_pos h48))
        rw [decide_eq_true h48]
        clear h48 hF2
        go_wp2
        go_ret
        exact ⟨ret_int hF3.out.symm, U3.out⟩
      · have hF3 := hid (hF2.out.trans (if_neg h48))
        rw [decide_eq_false h48]
        clear h48 hF2
        go_wp2
        go_ret
        exact ⟨ret_int hF3.out.symm, U3.out⟩
    · have hF2 := hid (hF.out.trans (if_pos rfl))
      clear hF c3
      go_wp2
      go_ret
      exact ⟨ret_int hF2.out.symm, U2.out⟩
theorem MapF.tight {w : World} {P : Program} {k : TypeId} {b n : Nat} {f : Lit → Option Value} (h : MapF w P k b n f) (K : Keyed P k) {ks : List Lit} (hn : ks.Nodup) (hk : ∀ kl, kl ∈ ks ↔ (f kl).isSome = true) : MapF w P k b ks.length f := by
  obtain ⟨D, h1, rfl⟩ := h
  have e := size_keys h1 K hn hk
  obtain ⟨es, clock, hb, F, _, hD⟩ := h1
  refine ⟨D, ⟨es, clock, hb, F, ?_, hD⟩, rfl⟩
  rw [hD] at e
  have e1 : es.size = ((es.toList.map (WideElems.rg P k heldR)).foldr DataW.insert []).length := by rw [length_sorted]; simp
  rw [e1]
  exact Nat.le_of_eq e
theorem Pics.out {w : World} {F : Nat → Prop} {n : Nat} {f f' : Lit → Option Value} {s : By} (hf : ∀ t, t ≠ s → f' (keyS t) = f (keyS t)) : ∀ {A : List (List (El (n + 2)))} {ps : List (Nat × Int)}, Pics w F n f A ps → ∃ qs, Pics w F n f' (outA A s) qs ∧ qs.Sublist ps
  | [], [], _ => ⟨[], trivial, List.Sublist.slnil⟩
  | [], _ :: _, h => h.elim
  | _ :: _, [], h => h.elim
  | l0 :: A, p :: ps, h => by
    obtain ⟨h1, h2, h3, h4⟩ := h
    obtain ⟨qs, q1, q2⟩ := Pics.out hf h4
    by_cases e : nm 3 l0 = s
    · refine ⟨qs, ?_, q2.cons p⟩
      unfold outA
      rw [List.filter_cons_of_neg (by simpa using e)]
      exact q1
    · refine ⟨p :: qs, ?_, q2.cons_cons p⟩
      unfold outA
      rw [List.filter_cons_of_pos (by simpa using e)]
      exact ⟨by rw [hf _ e]; exact h1, h2, h3, q1⟩
theorem out_keys {n : Nat} (A : List (List (El (n + 1)))) (s : By) : (outA A s).map (nm 3) = (A.map (nm 3)).filter (fun t => decide (t ≠ s)) := by
  unfold outA
  induction A with
  | nil => rfl
  | cons o A ih =>
    by_cases h : nm 3 o = s
    · rw [List.filter_cons_of_neg (by simpa using h), List.map_cons, List.filter_cons_of_neg (by simpa using h), ih]
    · rw [List.filter_cons_of_pos (by simpa using h), List.map_cons, List.map_cons, List.filter_cons_of_pos (by simpa using h), ih]
theorem out_nodup {n : Nat} {A : List (List (El (n + 1)))} (h : (A.map (nm 3)).Nodup) (s : By) : ((outA A s).map (nm 3)).Nodup := by
  rw [out_keys]; exact h.filter _
theorem keyS_iff {n : Nat} {A : List (List (El (n + 1)))} {k : Lit} : k ∈ A.map (fun l => keyS (nm 3 l)) ↔ ∃ l ∈ A, k = keyS (nm 3 l) := by
  rw [List.mem_map]
  exact ⟨fun ⟨q, h1, h2⟩ => ⟨q, h1, h2.symm⟩, fun ⟨q, h1, h2⟩ => ⟨q, h1, h2.symm⟩⟩
set_option maxRecDepth 20000 in
set_option maxHeartbeats 1000000 in
theorem Delete_any (n : Nat) (F : Nat → Prop) (w : World) (a m : Nat) (T : Int) (A : List (List (El (n + 2)))) (s : By) (h : ProA w F n a m T A) (hF : ∀ j, F j → j < w.heap.size ∧ j ≠ m) (hnd : (A.map (nm 3)).Nodup) (hl : A.length ≤ 48) (hs : s.length ≤ maxLen) :
    Calls Tryz.prog 50 #[ptr a, .string (bs s)] w fun e w' => e = .returned (.bool (decide ((outA A s).length < A.length))) ∧ UpB m w w' ∧ ProA w' (Nw F w w') n a m T (outA A s) := by
  have hm := h.mlt
  obtain ⟨h1, f, ps, hM, hP, hpw, hpT, hK⟩ := h
  obtain ⟨⟨a0, _⟩, _⟩ := h1.cells
  have hkey : keyOf Tryz.prog 9 (.string (bs s)) = some (keyS s) := WideMaps.keyOf_string_mk Tryz.underlying9 (by rw [bs_size]; exact hs)
  have hlk := hM.look (Maps.string_keyed Tryz.underlying9) Tryz.underlying122 (Tryz.zeroValue131 _) hkey
  have hin : decide ((outA A s).length < A.length) = (f (keyS s)).isSome := by
    rw [Bool.eq_iff_iff, decide_eq_true_eq, hK, out_len hnd]
    constructor
    · intro h
      by_cases hc : s ∈ A.map (nm 3)
      · obtain ⟨q, h1, h2⟩ := List.mem_map.1 hc
        exact ⟨q, h1, by rw [h2]⟩
      · rw [if_neg hc] at h; omega
    · rintro ⟨q, h1, h2⟩
      have hc : s ∈ A.map (nm 3) := List.mem_map.2 ⟨q, h1, by injection h2 with h2; exact h2.symm⟩
      rw [if_pos hc]
      have := List.length_pos_of_mem h1
      omega
  have H1 := hid h1
  have HM := hid hM
  have HP := hid hP
  have HK := hid hK
  have HN := hid hnd
  have HF := hid hF
  have HI := hid hin
  have HW := hid hpw
  have HT := hid hpT
  have HKy := hid hkey
  clear h1 hM hP hK hnd hF hin hpw hpT hkey
  have hval : ∃ d t, (f (keyS s)).getD (.agg #[.map none, .int .i64 0]) = .agg #[.map d, .int .i64 t] := by
    cases hf : f (keyS s) with
    | none => exact ⟨_, _, rfl⟩
    | some v =>
      obtain ⟨q, hq, hk⟩ := (HK.out (keyS s)).1 (by rw [hf]; rfl)
      obtain ⟨p, _, hfp, _⟩ := HP.out.find q hq
      rw [← hk, hf] at hfp
      obtain rfl := Option.some.inj hfp
      exact ⟨_, _, rfl⟩
  obtain ⟨d0, t0, hv0⟩ := hval
  rw [hv0] at hlk
  clear hv0
  have uZ : Below w.heap.size w (w.alloc (.cells #[.map d0, .int .i64 t0] 131)) := Below.alloc (Below.refl _ _) (Nat.le_refl _) _
  have a2 : (w.alloc (.cells #[.map d0, .int .i64 t0] 131)).cell? ⟨a, 0, none⟩ = some (.map (some m)) := cell_keep (Below.heap_alloc _ _ _ (World.block_lt_of_cell? _ _ a0)) a0
  have M2 := hid (HM.out.kept (uZ.block _ hm))
  have UZ := hid uZ
  clear uZ
  go_enter Tryz.func50, Tryz.ntmps50
  go_wp2_with (at_delete; refine wpList_delete_F rfl _ _ 122 9 rfl 131 (Maps.string_keyed Tryz.underlying9) Tryz.underlying122 m A.length f rfl M2.out _ (keyS s) rfl HKy.out trivial ?_)
  intro w3 hM3 hg3
  have U3 : UpB m w w3 := (UpB.of_below UZ.out).grown hg3 (fun k e => by cases e; exact Or.inl rfl)
  have hkeys : ∀ kl, kl ∈ (outA A s).map (fun l => keyS (nm 3 l)) ↔ (upd f (keyS s) none kl).isSome = true := fun kl => by
    rw [keyS_iff]
    unfold upd
    by_cases e : kl = keyS s
    · rw [if_pos ((same_iff (show WideAt.IsKeyLit (keyS s) from trivial)).2 e)]
      constructor
      · rintro ⟨q, h1, h2⟩
        have := (List.mem_filter.1 h1).2
        rw [e] at h2
        injection h2 with h2
        simp [h2] at this
      · intro h; cases h
    · rw [if_neg (fun h => e ((same_iff (show WideAt.IsKeyLit (keyS s) from trivial)).1 h)), HK.out]
      constructor
      · rintro ⟨q, h1, h2⟩
        exact ⟨q, (List.mem_filter.1 h1).1, h2⟩
      · rintro ⟨q, h1, h2⟩
        exact ⟨q, List.mem_filter.2 ⟨h1, by simpa using fun e2 => e (by rw [h2, e2])⟩, h2⟩
  have hM4 := hM3.tight (Maps.string_keyed Tryz.underlying9) (ProA.keys (out_nodup HN.out s)) hkeys
  rw [List.length_map] at hM4
  have hne : ∀ j, F j → j < w.heap.size → w3.heap[j]? = w.heap[j]? := fun j hj hj2 => U3.block hj2 (HF.out j hj).2
  have ham : a ≠ m := fun e => by
    subst e
    obtain ⟨D, ⟨es, clock, hb, _⟩, _⟩ := HM.out
    have h2 := H1.out
    unfold Arc2 at h2
    rw [hb] at h2
    injection h2 with h2
    cases h2
  have P3 := hid (show ProA w3 (Nw F w w3) n a m T (outA A s) by
    obtain ⟨qs, q1, q2⟩ := (HP.out.keep (w' := w3) (F' := Nw F w w3) (fun j hj => Or.inl hj) hne).out (f' := upd f (keyS s) none) (s := s) (fun t ht => by
      unfold upd
      rw [if_neg (fun h => ht (by have := (same_iff (show WideAt.IsKeyLit (keyS s) from trivial)).1 h; injection this))])
    refine ⟨H1.out.keep (U3.block H1.out.lt ham), _, qs, hM4, q1, ?_, fun p hp => HT.out p (q2.subset hp), fun k => by rw [← hkeys, keyS_iff]⟩
    exact HW.out.sublist (q2.map _))
  have U3' := hid U3
  clear hM3 hg3 hM4 hkeys hne U3
  go_wp2
  go_ret
  exact ⟨ret_bool HI.out.symm, U3'.out, P3.out⟩
end Go.Proofs.YtaokifbpakbgdaaGreatDoor

/- The library's iterator over the values of a map (maps.Values), at the pictures of an archive, for every loop body that leaves that map and the iterator alone. -/
namespace Go.Proofs.YtaokifbpakbgdaaGreatDoor
open Go.RowKit Go.Maps Go.Shelf
attribute [local go_sem] Oper.semAt_some

section
variable {Fe : Fence} {nF : Nat} {P : Program} {w : World} {ops : Array Oper} {rest : List Oper} {o : Oper} {a : Act} {Q : Exit → Act → World → Prop}
/-- 'range m', in a fence. -/
theorem wpListIn_range_F (hg : o.guard = none) (m : Operand) (t : TypeId) (hop : o.op = Op.range t m) (k e : TypeId) (K : Keyed P k) (ht : P.underlying t = some (.map k e)) (b n : Nat) (f : Lit → Option Value) (hm : a.eval m = .map (some b)) (h : MapF w P k b n f)
    (hK : ∀ w' cnt, RanF w' P k b w.heap.size n f (fun kl => (f kl).isSome) cnt → w.grownBy w' none → w'.heap.size = w.heap.size + 1 → wpListIn Fe nF P ops Q rest (a.put o.dst (.pointer (some ⟨w.heap.size, 0, none⟩))) w') : wpListIn Fe nF P ops Q (o :: rest) a w := by
  obtain ⟨D, h1, rfl⟩ := h
  refine wpListIn_range_own w hg m t hop k e K ht heldR b n D hm h1 (fun w' h2 h3 h4 => hK w' (Maps.size D) ⟨D, by rw [has_view h1 K] at h2; exact h2, rfl⟩ h3 h4)
/-- The next entry, in a fence. -/
theorem wpListIn_next_F (hg : o.guard = none) (it : Operand) (hop : o.op = Op.next it false) (k : TypeId) (K : Keyed P k) (hk : P.underlying k = some .string) (b r n : Nat) (f : Lit → Option Value) (left : Lit → Bool) (cnt : Nat)
    (hit : a.eval it = .pointer (some ⟨r, 0, none⟩)) (h : RanF w P k b r n f left cnt)
    (hDone : cnt = 0 → (∀ kl, left kl = false) → wpListIn Fe nF P ops Q rest (a.put o.dst (.tuple #[.bool false])) w)
    (hMore : ∀ (x : ByteArray) (c : Value) (w' : World) (cnt' : Nat), x.size ≤ maxLen → left (.string x.data.toList) = true → f (.string x.data.toList) = some c → RanF w' P k b r n f (fun z => left z && !z.sameKey (.string x.data.toList)) cnt' → cnt' < cnt →
      w.grownBy w' (some r) → w'.heap.size = w.heap.size → (Instr.entry (.pointer (some ⟨r, 0, none⟩))).run P w' = .ok (.tuple #[.string x, c]) w' → wpListIn Fe nF P ops Q rest (a.put o.dst (.tuple #[.bool true, .string x, c])) w') : wpListIn Fe nF P ops Q (o :: rest) a w := by
  obtain ⟨D, h1, rfl⟩ := h
  refine wpListIn_next_ranges w hg it hop k K heldR (fun x : ByteArray => .string x) (fun c : Value => c) (fun key kl hkey => Maps.keyOf_string_inv hk hkey) (fun v y _ => ⟨v, rfl⟩) b r n D left cnt hit h1 hDone (fun x c kl y w' cnt' h2 h3 h4 h5 h6 h7 h8 h9 h10 => ?_)
  have hx : x.size ≤ maxLen := by
    by_cases hs : x.size ≤ maxLen
    · exact hs
    · rw [keyOf_string hk] at h2
      simp [mapKey, hk, hs] at h2
  have e : kl = .string x.data.toList := Option.some.inj (h2.symm.trans (WideMaps.keyOf_string_mk hk hx))
  subst e
  refine hMore x c w' cnt' hx h3 ?_ ⟨D, h6, rfl⟩ h7 h8 h9 h10
  unfold heldR at h4
  injection h4 with h4
  unfold view
  rw [h5 .nil, ← h4]
end
/-- Every map and every walk over one lies as it lay, but for the map of that block; below 'lo' all does. -/
structure KeepsBut (nb lo : Nat) (W W' : World) : Prop where
  size : W.heap.size ≤ W'.heap.size
  same : ∀ (k : Nat) (o : Obj), k ≠ nb → W.heap[k]? = some o → o.isWalk = true → W'.heap[k]? = some o
  low : ∀ k : Nat, k < lo → W'.heap[k]? = W.heap[k]?
theorem KeepsBut.trans {nb lo : Nat} {A B C : World} (h : KeepsBut nb lo A B) (k : KeepsBut nb lo B C) : KeepsBut nb lo A C := ⟨Nat.le_trans h.size k.size, fun i o hi h1 h2 => k.same i o hi (h.same i o hi h1 h2) h2, fun j hj => (k.low j hj).trans (h.low j hj)⟩
theorem KeepsBut.book {nb lo : Nat} {w : World} (hlo : lo ≤ w.heap.size) (W : World) (l : Nat) (o o' : Obj) (hl : w.heap.size ≤ l) (h : W.heap[l]? = some o) (_ : o.isCells = false) (hw : o.isWalk = false) : KeepsBut nb lo W (W.putObj l o') := ⟨(KeepsWalks.putObj _ h hw).size, fun k x _ h1 h2 => (KeepsWalks.putObj _ h hw).same k x h1 h2, fun k hk => World.putObj_heap_other (fun e => by omega)⟩
theorem RanF.but {w w' : World} {P : Program} {k : TypeId} {b r n : Nat} {f : Lit → Option Value} {left : Lit → Bool} {cnt nb lo : Nat} (h : RanF w P k b r n f left cnt) (hk : KeepsBut nb lo w w') (hb : b ≠ nb) (hr : r ≠ nb) : RanF w' P k b r n f left cnt := by
  obtain ⟨D, ⟨es, clock, since, seen, c0, h1, h2, h3, h4, h5, h6⟩, h7⟩ := h
  exact ⟨D, ⟨es, clock, since, seen, c0, hk.same _ _ hb h1 rfl, h2, h3, h4, hk.same _ _ hr h5 rfl, h6⟩, h7⟩
theorem RanF.walk {w : World} {P : Program} {k : TypeId} {b r n : Nat} {f : Lit → Option Value} {left : Lit → Bool} {cnt : Nat} (h : RanF w P k b r n f left cnt) : ∃ o : Obj, w.heap[r]? = some o ∧ o.isWalk = true := by
  obtain ⟨D, h1, _⟩ := h
  exact h1.iter_walk
theorem RanF.le {w : World} {P : Program} {k : TypeId} {b r n : Nat} {f : Lit → Option Value} {left : Lit → Bool} {cnt : Nat} (h : RanF w P k b r n f left cnt) : cnt ≤ n := by
  obtain ⟨D, ⟨es, clock, since, seen, c0, h1, h2, h3, h4, h5, h6, h7, h8⟩, _⟩ := h
  rw [← h7]
  refine Nat.le_trans ?_ h3
  unfold Go.leftOf
  exact Array.size_filter_le ..
/-- The pictures, as the data sets that they are of. -/
abbrev Of {n : Nat} (A : List (List (El (n + 2)))) := { l : List (El (n + 2)) // l ∈ A }
abbrev encP {n : Nat} {A : List (List (El (n + 2)))} (pd : List (El (n + 2)) → Nat × Int) (x : Of A) : Array Value := #[picV (pd x.1).1 (pd x.1).2]
set_option maxRecDepth 100000 in
set_option maxHeartbeats 2000000 in
theorem values1_in (Fe : Fence) (nF : Nat) (h8 : Fe.fn 226) (hro : Fe.round = none) (hn : 1 ≤ nF) {n : Nat} (l Bm m nb lo : Nat) (A : List (List (El (n + 2)))) (f : Lit → Option Value) (pd : List (El (n + 2)) → Nat × Int) (J Jx : List (Of A) → World → Prop)
    (hY : ∀ pre x W, J pre W → pre.length < A.length → YieldAt Fe (nF - 1) Tryz.prog l (encP pd x) W fun e W' => (e = .returned (.bool true) ∧ J (pre ++ [x]) W' ∧ KeepsBut nb lo W W') ∨ (e = .returned (.bool false) ∧ Jx (pre ++ [x]) W'))
    (W : World) (hJ : AbidesFrom W.heap.size J) (hm : W.cell? ⟨Bm, 0, none⟩ = some (.map (some m))) (hM : MapF W Tryz.prog 9 m A.length f) (hK : ∀ k, (f k).isSome = true ↔ ∃ l ∈ A, k = keyS (nm 3 l)) (hpd : ∀ l ∈ A, f (keyS (nm 3 l)) = some (picV (pd l).1 (pd l).2)) (hnd : (A.map (nm 3)).Nodup) (hnb : nb < W.heap.size) (hmb : m ≠ nb) (h0 : J [] W) :
    CallsIn Fe nF Tryz.prog 226 #[.func (.yield l) #[] #[], .pointer (some ⟨Bm, 0, none⟩)] W fun e W' => (∃ v, e = .returned v) ∧ ((∃ xs, (xs.map (·.1)).Perm A ∧ J xs W') ∨ (∃ pre, True ∧ Jx pre W')) := by
  refine callsIn_of_wp Tryz.func226 rfl h8 ?_ hro
  simp only [Tryz.ntmps226, List.size_toArray, List.length_cons, List.length_nil, Nat.reduceAdd, Nat.reduceSub, Array.replicate_succ, Array.replicate_zero, List.push_toArray, List.append_toArray, List.nil_append, List.cons_append]
  gi_wp2_with (first
    | (gi_at_range; refine wpListIn_range_F rfl _ 122 rfl 9 131 (Maps.string_keyed Tryz.underlying9) Tryz.underlying122 m A.length f rfl hM ?_; intro w0 cnt0 hrg0 hg0 hs0)
    | gi_in)
  go_frame
  gi_loopw [4] (fun _ wr => ∃ (left : Lit → Bool) (cnt : Nat) (ps : List (Of A)), RanF wr Tryz.prog 9 m W.heap.size A.length f left cnt ∧ ps.length + cnt ≤ A.length ∧ ps.Nodup ∧ (∀ q : Of A, left (keyS (nm 3 q.1)) = false ↔ q ∈ ps) ∧ J ps wr) (fun _ wr => wr.rangeLeft m W.heap.size)
  case atStart => exact ⟨_, cnt0, [], hrg0, by simpa using hrg0.le, List.nodup_nil, fun q => ⟨fun h => absurd ((hK _).2 ⟨q.1, q.2, rfl⟩) (by rw [h]; decide), (fun h => nomatch h)⟩, hJ [] W w0 none h0 hg0 (fun r e => by cases e)⟩
  case round =>
    obtain ⟨left, cnt, ps, hrg, hcs, hps, hL, hJs⟩ := hrel
    gi_wp2_with (first
      | (gi_at_next; refine wpListIn_next_F rfl _ rfl 9 (Maps.string_keyed Tryz.underlying9) Tryz.underlying9 m W.heap.size A.length f left cnt rfl hrg ?_ ?_)
      | gi_in)
    · intro _ hl0
      gi_wp2
      go_end0
      refine ⟨⟨_, rfl⟩, .inl ⟨ps, ?_, hJs⟩⟩
      have hA : A.Nodup := by
        rw [List.Nodup, List.pairwise_map] at hnd
        exact hnd.imp (fun h e => h (by rw [e]))
      refine (List.perm_ext_iff_of_nodup ?_ hA).2 (fun x => ?_)
      · rw [List.Nodup, List.pairwise_map]
        exact List.Pairwise.imp (fun h e => h (Subtype.ext e)) hps
      · rw [List.mem_map]
        exact ⟨fun ⟨q, _, e⟩ => e ▸ q.2, fun hx => ⟨⟨x, hx⟩, (hL ⟨x, hx⟩).1 (hl0 _), rfl⟩⟩
    · intro x c w2 cnt2 hx hlx hfx hr2 hlt hg2 hs2 hen
      obtain ⟨q, hq, ek⟩ := (hK (.string x.data.toList)).1 (by rw [hfx]; rfl)
      have ex : x = bs (nm 3 q) := by
        have : x.data.toList = nm 3 q := by injection ek
        rw [← this]; rfl
      subst ex
      have ec : c = picV (pd q).1 (pd q).2 := Option.some.inj (hfx.symm.trans (hpd q hq))
      subst ec
      have hJ2 := hJ ps wr w2 (some W.heap.size) hJs hg2 (fun r e => by cases e; exact ⟨Nat.le_refl _, hrg.walk⟩)
      have hJ3 := hJ ps w2 (w2.alloc (.cells #[.map (some (pd q).1), .int .i64 (pd q).2] 131)) none hJ2 (World.grownBy_alloc w2 _ none) (fun r e => by cases e)
      have hr3 := hr2.up (Below.alloc (Below.refl _ w2) (Nat.le_refl _) (.cells #[.map (some (pd q).1), .int .i64 (pd q).2] 131))
      obtain ⟨fn, tmps, assign, body, hy, hR⟩ := hY ps ⟨q, hq⟩ _ hJ3 (by omega)
      dsimp only [encP] at hy
      clear hs2
      gi_wp2
      refine hR.mono ?_
      have hL2 : ∀ z : Of A, (left (keyS (nm 3 z.1)) && !(keyS (nm 3 z.1)).sameKey (.string (bs (nm 3 q)).data.toList)) = false ↔ z ∈ ps ++ [⟨q, hq⟩] := fun z => by
        rw [List.mem_append, List.mem_singleton, Bool.and_eq_false_iff, hL z]
        constructor
        · rintro (h | h)
          · exact Or.inl h
          · have h2 : (keyS (nm 3 z.1)).sameKey (.string (bs (nm 3 q)).data.toList) = true := by simpa using h
            have h3 := WideAt.sameKey_eq h2
            exact Or.inr (Subtype.ext (nodup_eq hnd z.2 hq (by injection h3)))
        · rintro (h | h)
          · exact Or.inl h
          · rw [h]
            exact Or.inr (by rw [show (keyS (nm 3 q)).sameKey (.string (bs (nm 3 q)).data.toList) = true from WideAt.sameKey_self (show WideAt.IsKeyLit (keyS (nm 3 q)) from trivial)]; rfl)
      have hps2 : (ps ++ [(⟨q, hq⟩ : Of A)]).Nodup := by
        rw [List.nodup_append]
        refine ⟨hps, by simp, fun y hy z hz e => ?_⟩
        rw [List.mem_singleton] at hz
        rw [e, hz] at hy
        have := (hL ⟨q, hq⟩).2 hy
        rw [show left (keyS (nm 3 q)) = true from hlx] at this
        cases this
      rintro e W3 (⟨rfl, hJ3', hk3⟩ | ⟨rfl, hJx3⟩)
      · gi_wp2
        have hr4 := hr3.but hk3 hmb (by omega)
        go_roundw
        case rel => exact ⟨_, cnt2, ps ++ [⟨q, hq⟩], hr4, by simp; omega, hps2, hL2, hJ3'⟩
        case measure => rw [hr4.left_eq, hrg.left_eq]; exact hlt
      · gi_wp2
        refine bodyPost_ret (results_none rfl _ _ _) rfl ?_
        exact ⟨⟨_, rfl⟩, .inr ⟨_, trivial, hJx3⟩⟩
end Go.Proofs.YtaokifbpakbgdaaGreatDoor

/- Dates and times written in digits: they are values of their kinds, and their order is that of their numbers (no program). -/
namespace Go.Proofs.YtaokifbpakbgdaaGreatDoor
open Go.RowKit

def dgs : Nat → Nat → Bs
  | 0, _ => []
  | k + 1, n => UInt8.ofNat (48 + n / 10 ^ k % 10) :: dgs k n
/-- A date of these numbers, and how far it is along. -/
def dateOf (y m d : Nat) : Bs := dgs 4 y ++ dgs 2 m ++ dgs 2 d
def timeOf (n : Nat) : Bs := dgs 2 (n / 3600) ++ dgs 2 (n / 60 % 60) ++ dgs 2 (n % 60)
/-- What the four patterns answer. -/
def Between (k a b c : Bs) (af bf : Bool) : Prop :=
  (matchV k (a ++ [45] ++ b) c = (af && bf) ∧ matchE k (a ++ [45] ++ b) c = 0) ∧ (matchV k (a ++ [45]) c = af ∧ matchE k (a ++ [45]) c = 0) ∧
  (matchV k ([45] ++ b) c = bf ∧ matchE k ([45] ++ b) c = 0) ∧ (matchV k a a = true ∧ matchE k a a = 0)

theorem fold_num : ∀ (l : Bs) (a : Int), l.foldl (fun n c => 10 * n + (nb c - 48)) a = a * 10 ^ l.length + num l
  | [], a => by simp [num]
  | c :: l, a => by
    have h1 := fold_num l (10 * a + (nb c - 48))
    have h2 := fold_num l (10 * 0 + (nb c - 48))
    have e : num (c :: l) = l.foldl (fun n c => 10 * n + (nb c - 48)) (10 * 0 + (nb c - 48)) := rfl
    rw [List.foldl_cons, h1, e, h2, List.length_cons, Int.pow_succ, Int.add_mul, Int.add_mul, Int.mul_comm (10 ^ l.length) 10, ← Int.mul_assoc, Int.mul_comm a 10]
    omega
theorem num_append (a b : Bs) : num (a ++ b) = num a * 10 ^ b.length + num b := by
  unfold num
  rw [List.foldl_append]
  exact fold_num b _
theorem num_cons (c : UInt8) (l : Bs) : num (c :: l) = (nb c - 48) * 10 ^ l.length + num l := by
  have := num_append [c] l
  simpa [num] using this
theorem digitsB_cons (c : UInt8) (l : Bs) : digitsB (c :: l) = true ↔ dg c = true ∧ digitsB l = true := by simp [digitsB]
theorem digitsB_append (a b : Bs) : digitsB (a ++ b) = true ↔ digitsB a = true ∧ digitsB b = true := by simp [digitsB]
theorem less_num : ∀ (a b : Bs), a.length = b.length → digitsB a = true → digitsB b = true → (Op.bytesLess a b = true ↔ num a < num b) ∧ (a = b ↔ num a = num b)
  | [], [], _, _, _ => by simp [Op.bytesLess]
  | x :: a, y :: b, hl, ha, hb => by
    rw [digitsB_cons] at ha hb
    have hl' : a.length = b.length := by simpa using hl
    obtain ⟨i1, i2⟩ := less_num a b hl' ha.2 hb.2
    have ba := num_bd a ha.2
    have bb := num_bd b hb.2
    rw [num_cons, num_cons, hl']
    rw [hl'] at ba
    generalize (10 : Int) ^ b.length = T at ba bb ⊢
    have hx := UInt8.toNat_inj (a := x) (b := y)
    have hlt : x < y ↔ nb x < nb y := by rw [UInt8.lt_iff_toNat_lt]; unfold nb; omega
    have heq : x = y ↔ nb x = nb y := by rw [← hx]; unfold nb; omega
    rcases Int.lt_trichotomy (nb x) (nb y) with h | h | h
    · obtain ⟨d, hd⟩ : ∃ d : Nat, nb y - 48 = (nb x - 48) + 1 + d := ⟨(nb y - nb x - 1).toNat, by omega⟩
      have hT : (nb y - 48) * T = (nb x - 48) * T + T + d * T := by rw [hd, Int.add_mul, Int.add_mul, Int.one_mul]
      have hd0 : 0 ≤ (d : Int) * T := Int.mul_nonneg (by omega) (by omega)
      have hne : ¬ x = y := fun e => by rw [heq] at e; omega
      refine ⟨?_, ?_⟩
      · simp only [Op.bytesLess, decide_eq_true (hlt.2 h), Bool.true_or, true_iff]; omega
      · simp only [List.cons.injEq, hne, false_and, false_iff]; omega
    · have e : x = y := heq.2 h
      subst e
      refine ⟨?_, ?_⟩
      · simp only [Op.bytesLess, UInt8.lt_irrefl, decide_false, Bool.false_or, BEq.rfl, Bool.true_and]
        rw [i1]; omega
      · simp only [List.cons.injEq, true_and]
        rw [i2]; omega
    · obtain ⟨d, hd⟩ : ∃ d : Nat, nb x - 48 = (nb y - 48) + 1 + d := ⟨(nb x - nb y - 1).toNat, by omega⟩
      have hT : (nb x - 48) * T = (nb y - 48) * T + T + d * T := by rw [hd, Int.add_mul, Int.add_mul, Int.one_mul]
      have hd0 : 0 ≤ (d : Int) * T := Int.mul_nonneg (by omega) (by omega)
      have hne : ¬ x = y := fun e => by rw [heq] at e; omega
      have hnl : ¬ x < y := fun e => by rw [hlt] at e; omega
      have hb : (x == y) = false := by simpa using hne
      refine ⟨?_, ?_⟩
      · simp only [Op.bytesLess, decide_eq_false hnl, hb, Bool.false_or, Bool.false_and, Bool.false_eq_true, false_iff]; omega
      · simp only [List.cons.injEq, hne, false_and, false_iff]; omega
theorem leB_num (a b : Bs) (hl : a.length = b.length) (ha : digitsB a = true) (hb : digitsB b = true) : leB a b = decide (num a ≤ num b) := by
  obtain ⟨h1, h2⟩ := less_num a b hl ha hb
  rw [Bool.eq_iff_iff]
  simp only [leB, Bool.or_eq_true, beq_iff_eq, decide_eq_true_eq]
  rw [h1, h2]; omega
theorem no_dash (l : Bs) (h : digitsB l = true) : (45 : UInt8) ∉ l := fun hm => by
  unfold digitsB at h
  rw [List.all_eq_true] at h
  have := h 45 hm
  revert this; decide
theorem cut_hit (a b : Bs) (h : (45 : UInt8) ∉ a) : cutB (a ++ 45 :: b) = (a, b, true) := by
  unfold cutB Lib.cut
  rcases index_one 45 (a ++ 45 :: b) with ⟨_, h2⟩ | ⟨i, h1, h2, h3, h4⟩
  · exact absurd (by simp) h2
  · have hi : i = a.length := by
      rcases Nat.lt_trichotomy i a.length with hl | hl | hl
      · exfalso
        have e1 : (a ++ 45 :: b)[i]? = some 45 := by
          rw [h3, List.getElem?_append_right (by simp; omega)]
          have : i - (List.take i (a ++ 45 :: b)).length = 0 := by simp; omega
          rw [this]; rfl
        rw [List.getElem?_append_left hl] at e1
        exact h (List.mem_of_getElem? e1)
      · exact hl
      · exfalso
        apply h4
        rw [List.take_append]
        simp
        right
        obtain ⟨d, hd⟩ : ∃ d, i - a.length = d + 1 := ⟨i - a.length - 1, by omega⟩
        rw [hd]; simp
    subst hi
    rw [if_pos (by omega), h1]
    simp
theorem cut_miss (a : Bs) (h : (45 : UInt8) ∉ a) : cutB a = (a, [], false) := by
  unfold cutB Lib.cut
  rcases index_one 45 a with ⟨h1, _⟩ | ⟨i, h1, h2, h3, h4⟩
  · rw [if_neg (by omega)]
  · exact absurd (by rw [h3]; simp) h
theorem pat_span (k p : Bs) (hk : k = [68, 65] ∨ k = [84, 77]) : isPatB k p = spanB k p := by
  unfold isPatB; rcases hk with rfl | rfl <;> rfl
theorem span_one (k a : Bs) (ha : (45 : UInt8) ∉ a) (ca : chkF k a = 0) : spanB k a = true := by
  unfold spanB
  rw [cut_miss a ha]
  simp [ca]
theorem fits_date (p v : Bs) (hv : v ≠ []) : fitsB [68, 65] p v = fitsDateB p v := by
  unfold fitsB
  rw [if_neg (by decide), if_neg (by decide), if_neg hv, if_pos rfl]
theorem fits_time (p v : Bs) (hv : v ≠ []) : fitsB [84, 77] p v = fitsTimeB p v := by
  unfold fitsB
  rw [if_neg (by decide), if_neg (by decide), if_neg hv, if_neg (by decide), if_pos rfl]
theorem leB_nil (v : Bs) (h : v ≠ []) : leB [] v = true := by
  cases v with
  | nil => exact absurd rfl h
  | cons x v => rfl
theorem filled6 (a m : Bs) (h : a.length = 6) : filledB a m = a := fill_stop _ _ _ (fun e => by omega)
theorem filled_nil (m : Bs) : filledB [] m = [] := fill_stop _ _ _ (fun e => e.1 rfl)
/- Dates. -/
/- Times. -/
end Go.Proofs.YtaokifbpakbgdaaGreatDoor

/- Numbers in decimal digits with a sign: two tellings of them agree (no program). -/
namespace Go.Proofs.YtaokifbpakbgdaaGreatDoor

def rdig (l : Bs) : Int := if 1 ≤ l.length ∧ l.length ≤ 12 ∧ digitsB l = true then num l else -1
/-- The number that digits spell behind others. -/
def val (acc : Nat) (t : Bs) : Nat := t.foldl (fun n c => 10 * n + (c.toNat - 48)) acc
theorem val_cons (acc : Nat) (c : UInt8) (t : Bs) : val acc (c :: t) = val (10 * acc + (c.toNat - 48)) t := by unfold val; rw [List.foldl_cons]
theorem val_mono (t : Bs) : ∀ acc, acc ≤ val acc t := by
  induction t with
  | nil => exact fun acc => Nat.le_refl _
  | cons c t ih =>
    intro acc
    have h := ih (10 * acc + (c.toNat - 48))
    rw [val_cons]
    generalize val (10 * acc + (c.toNat - 48)) t = v at h
    omega
theorem val_num : ∀ (t : Bs) (acc : Nat), digitsB t = true → ((val acc t : Nat) : Int) = t.foldl (fun n c => 10 * n + (nb c - 48)) (acc : Int)
  | [], _, _ => rfl
  | c :: t, acc, h => by
    rw [digitsB_cons, dg_iff] at h
    unfold nb at h
    rw [val_cons, val_num t _ h.2, List.foldl_cons]
    congr 1
    unfold nb
    omega
theorem parse_ok (M : Nat) (hM : M < 1844674407370955162) : ∀ (t : Bs) (acc : Nat), digitsB t = true → val acc t ≤ M → Lib.parseUintM M acc t = .ok (val acc t)
  | [], _, _, _ => rfl
  | c :: t, acc, h, hv => by
    rw [digitsB_cons, dg_iff] at h
    unfold nb at h
    rw [val_cons] at hv ⊢
    have hm := val_mono t (10 * acc + (c.toNat - 48))
    rw [Lib.parseUintM, if_pos (by omega), if_neg (by omega), if_neg (by omega), show acc * 10 + (c.toNat - 48) = 10 * acc + (c.toNat - 48) by omega]
    exact parse_ok M hM t _ h.2 hv
theorem ok_parse (M : Nat) : ∀ (t : Bs) (acc u : Nat), acc ≤ M → Lib.parseUintM M acc t = .ok u → digitsB t = true ∧ u = val acc t ∧ val acc t ≤ M
  | [], acc, u, ha, h => by
    have e : acc = u := by simpa [Lib.parseUintM] using h
    exact ⟨rfl, e.symm, ha⟩
  | c :: t, acc, u, ha, h => by
    rw [Lib.parseUintM] at h
    by_cases h1 : 48 ≤ c.toNat ∧ c.toNat ≤ 57
    · rw [if_pos h1] at h
      by_cases h2 : 1844674407370955162 ≤ acc
      · rw [if_pos h2] at h; cases h
      · rw [if_neg h2] at h
        by_cases h3 : M < acc * 10 + (c.toNat - 48)
        · rw [if_pos h3] at h; cases h
        · rw [if_neg h3, show acc * 10 + (c.toNat - 48) = 10 * acc + (c.toNat - 48) by omega] at h
          obtain ⟨e1, e2, e3⟩ := ok_parse M t _ u (by omega) h
          refine ⟨?_, e2, e3⟩
          rw [digitsB_cons, dg_iff]
          unfold nb
          exact ⟨by omega, e1⟩
    · rw [if_neg h1] at h; cases h
theorem val_is_num (t : Bs) (h : digitsB t = true) : ((val 0 t : Nat) : Int) = num t := val_num t 0 h
/-- The sign, and the digits behind it. -/
def sgn (l : Bs) : Int := if l.head? = some 45 then -1 else 1
def tl (l : Bs) : Bs := if l.head? = some 43 ∨ l.head? = some 45 then l.drop 1 else l
def rnumBad (l : Bs) : Bool := decide (rdig (tl l) < 0) || decide (12 < l.length)
def rnumV (l : Bs) : Int := if rnumBad l then 0 else sgn l * rdig (tl l)
def rnumOk (l : Bs) : Bool := !rnumBad l && decide (-2147483648 ≤ sgn l * rdig (tl l)) && decide (sgn l * rdig (tl l) ≤ 2147483647)
theorem parse_tl (l : Bs) (hl : l.length ≤ 12) (u : Nat) (h : Lib.parseUintB 32 (tl l) = .ok u) : rdig (tl l) = u ∧ 0 ≤ rdig (tl l) := by
  unfold Lib.parseUintB at h
  by_cases e : tl l = []
  · rw [if_pos e] at h; cases h
  · rw [if_neg e] at h
    obtain ⟨h1, h2, h3⟩ := ok_parse _ _ _ _ (by omega) h
    have hlen : 1 ≤ (tl l).length ∧ (tl l).length ≤ 12 := by
      constructor
      · cases ht : tl l with
        | nil => exact absurd ht e
        | cons a b => simp
      · have : (tl l).length ≤ l.length := by unfold tl; split <;> simp
        omega
    have : rdig (tl l) = num (tl l) := by unfold rdig; rw [if_pos ⟨hlen.1, hlen.2, h1⟩]
    rw [this, ← val_is_num _ h1, ← h2]
    exact ⟨rfl, by omega⟩
theorem tl_parse (l : Bs) (h : 0 ≤ rdig (tl l)) (hb : rdig (tl l) ≤ 4294967295) : ∃ u : Nat, Lib.parseUintB 32 (tl l) = .ok u ∧ rdig (tl l) = u := by
  have hd : 1 ≤ (tl l).length ∧ (tl l).length ≤ 12 ∧ digitsB (tl l) = true := by
    by_cases hc : 1 ≤ (tl l).length ∧ (tl l).length ≤ 12 ∧ digitsB (tl l) = true
    · exact hc
    · unfold rdig at h; rw [if_neg hc] at h; omega
  have e : rdig (tl l) = num (tl l) := by unfold rdig; rw [if_pos hd]
  have hv := val_is_num _ hd.2.2
  have hne : ¬ tl l = [] := fun e => by rw [e] at hd; simp at hd
  refine ⟨val 0 (tl l), ?_, by rw [e, hv]⟩
  unfold Lib.parseUintB
  rw [if_neg hne]
  exact parse_ok _ (by decide) _ _ hd.2.2 (by rw [e, ← hv] at hb; show _ ≤ 2 ^ 32 - 1; omega)
theorem toNat_lit (c : UInt8) (n : UInt8) : c.toNat = n.toNat ↔ c = n := UInt8.toNat_inj
theorem numB_ref (l : Bs) : numB l = if rnumOk l then some (rnumV l) else none := by
  unfold numB
  by_cases h12 : 12 < l.length
  · have hb : rnumBad l = true := by unfold rnumBad; rw [decide_eq_true h12, Bool.or_true]
    have : rnumOk l = false := by unfold rnumOk; rw [hb]; rfl
    rw [if_pos h12, this]; rfl
  · rw [if_neg h12]
    cases l with
    | nil => rfl
    | cons c r =>
      have htl : (if c.toNat = 43 ∨ c.toNat = 45 then r else c :: r) = tl (c :: r) := by
        unfold tl
        simp only [List.head?_cons, Option.some.injEq, List.drop_succ_cons, List.drop_zero]
        have e1 : (c.toNat = 43 ∨ c.toNat = 45) ↔ (c = 43 ∨ c = 45) := by rw [← toNat_lit c 43, ← toNat_lit c 45]; rfl
        by_cases h : c = 43 ∨ c = 45
        · rw [if_pos h, if_pos (e1.2 h)]
        · rw [if_neg h, if_neg (fun x => h (e1.1 x))]
      have hsg : (c.toNat = 45) ↔ (c :: r).head? = some 45 := by
        rw [List.head?_cons, Option.some.injEq, ← toNat_lit c 45]; rfl
      rw [Lib.parseIntB, htl]
      have hlen : (c :: r).length ≤ 12 := by omega
      rcases hp : Lib.parseUintB 32 (tl (c :: r)) with u | _ | _
      · obtain ⟨e1, e2⟩ := parse_tl (c :: r) hlen u hp
        have hb : rnumBad (c :: r) = false := by unfold rnumBad; rw [decide_eq_false (by omega), decide_eq_false h12]; rfl
        unfold rnumOk rnumV sgn
        rw [hb, e1]
        by_cases hn : c.toNat = 45
        · rw [if_pos (hsg.1 hn)]
          by_cases h31 : 2 ^ 31 < u
          · simp only [hn, not_true_eq_false, false_and, if_false, true_and]
            rw [if_pos h31, decide_eq_false (by omega : ¬ (-2147483648 ≤ -1 * (u : Int)))]; rfl
          · simp only [hn, not_true_eq_false, false_and, if_false, true_and]
            rw [if_neg h31, decide_eq_true (by omega : -2147483648 ≤ -1 * (u : Int)), decide_eq_true (by omega : -1 * (u : Int) ≤ 2147483647)]
            simp
        · rw [if_neg (fun h => hn (hsg.2 h))]
          by_cases h31 : 2 ^ 31 ≤ u
          · simp only [hn, not_false_eq_true, true_and]
            rw [if_pos h31, decide_eq_false (by omega : ¬ (1 * (u : Int) ≤ 2147483647))]; simp
          · simp only [hn, not_false_eq_true, true_and, false_and, if_false]
            rw [if_neg h31, decide_eq_true (by omega : -2147483648 ≤ 1 * (u : Int)), decide_eq_true (by omega : 1 * (u : Int) ≤ 2147483647)]
            simp
      all_goals
        have : rnumOk (c :: r) = false := by
          rw [Bool.eq_false_iff]
          intro ho
          unfold rnumOk rnumBad at ho
          simp only [Bool.and_eq_true, Bool.not_eq_true', Bool.or_eq_false_iff, decide_eq_false_iff_not, decide_eq_true_eq] at ho
          have hs : sgn (c :: r) = 1 ∨ sgn (c :: r) = -1 := by unfold sgn; split <;> simp
          have hb : rdig (tl (c :: r)) ≤ 4294967295 := by
            rcases hs with hs | hs <;> rw [hs] at ho <;> omega
          obtain ⟨u, hu, _⟩ := tl_parse (c :: r) (by omega) hb
          rw [hu] at hp
          cases hp
        rw [this]; rfl
end Go.Proofs.YtaokifbpakbgdaaGreatDoor
