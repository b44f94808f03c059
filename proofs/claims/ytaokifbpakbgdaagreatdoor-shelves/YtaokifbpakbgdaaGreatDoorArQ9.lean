/-
  Package archive: checkPlace, Delete, New.
-/
import Derived.Test.YtaokifbpakbgdaaGreatDoorArQ8
namespace Go.Proofs.YtaokifbpakbgdaaGreatDoor
open Go.RowKit Go.Maps

/-- What checkPlace answers. -/
def plaE {n : Nat} (A : List (List (El (n + 1)))) (l : List (El (n + 1))) : Int := if nm 0 l = [] ∨ nm 1 l = [] ∨ nm 2 l = [] ∨ nm 3 l = [] then 7 else if (outA A (nm 3 l)).any (clash l) then 8 else if 48 ≤ (outA A (nm 3 l)).length then 9 else 0
theorem hasN_desc {n : Nat} (l : List (El (n + 2))) : hasN (descG l) = decide (¬ (nm 0 l = [] ∨ nm 1 l = [] ∨ nm 2 l = [] ∨ nm 3 l = [])) := by
  unfold hasN
  rw [valG_desc, valG_desc, valG_desc, valG_desc]
  exact decide_eq_decide.2 ⟨fun ⟨h0, h1, h2, h3⟩ h => by rcases h with h | h | h | h; (· exact h0 h); (· exact h1 h); (· exact h2 h); exact h3 h, fun h => ⟨fun e => h (Or.inl e), fun e => h (Or.inr (Or.inl e)), fun e => h (Or.inr (Or.inr (Or.inl e))), fun e => h (Or.inr (Or.inr (Or.inr e)))⟩⟩
theorem layE_eq {n : Nat} (A : List (List (El (n + 2)))) (l : List (El (n + 2))) : layE A l = if celE l ≠ 0 then celE l else plaE A l := by
  unfold layE desE celE plaE
  by_cases h1 : l.any bad1 = true
  · simp [h1]
  · by_cases h2 : l.any bad2 = true
    · simp [h1, h2]
    · by_cases h3 : nm 0 l = [] ∨ nm 1 l = [] ∨ nm 2 l = [] ∨ nm 3 l = []
      · simp [h1, h2, h3]
      · simp [h1, h2, h3]
set_option maxRecDepth 20000 in
theorem checkPlace_any (n : Nat) (F Fd : Nat → Prop) (w : World) (a m dB : Nat) (T : Int) (A : List (List (El (n + 2)))) (l : List (El (n + 2))) (h : ProA w F n a m T A) (hd : DMk w Fd (n + 1) dB 24 (descG l)) (hN : NamesV w) (hnd : (A.map (nm 3)).Nodup) (hl : A.length ≤ 48) (hs : (nm 3 l).length ≤ 64) :
    Calls Tryz.prog 96 #[ptr a, .map (some dB)] w fun e w' => e = .returned (.int .i64 (plaE A l)) ∧ Below w.heap.size w w' := by
  have c1 := hid (hasNames_any w Fd (n + 1) dB 24 (descG l) hd hN)
  have c2 := hid (isElsewhere_any n F Fd w a m dB T A l h hd hnd)
  have H := hid h
  have HD := hid hd
  have HN := hid hnd
  have hh := hid (hasN_desc l)
  clear h hd hN hnd
  go_enter Tryz.func96, Tryz.ntmps96
  go_wp2_with fail
  go_at_call 157
  refine c1.out.mono ?_
  rintro e w1 ⟨rfl, rfl⟩
  rw [hh.out]
  by_cases h0 : nm 0 l = [] ∨ nm 1 l = [] ∨ nm 2 l = [] ∨ nm 3 l = []
  · have hF := hid (show plaE A l = 7 by rw [plaE, if_pos h0])
    rw [decide_eq_false (fun h => h h0)]
    clear h0 c1 c2
    go_wp2
    go_ret
    exact ⟨ret_int hF.out.symm, Below.refl _ _⟩
  · have hF := hid (show plaE A l = if (outA A (nm 3 l)).any (clash l) then 8 else if 48 ≤ (outA A (nm 3 l)).length then 9 else 0 by rw [plaE, if_neg h0])
    rw [decide_eq_true h0]
    clear h0 c1
    go_wp2_with fail
    go_at_call 158
    refine c2.out.mono ?_
    clear c2
    rintro e w2 ⟨rfl, u2⟩
    have c3 := hid (isFullFor_any n F Fd w2 a m dB T A l (H.out.up u2) (HD.out.up u2) HN.out hl hs)
    have U2 := hid u2
    clear u2
    generalize (outA A (nm 3 l)).any (clash l) = cl at hF
    cases cl
    · have hF2 := hid (hF.out.trans (if_neg (by decide)))
      clear hF
      go_wp2_with fail
      go_at_call 159
      refine c3.out.mono ?_
      clear c3
      rintro e w3 ⟨rfl, u3⟩
      have U3 := hid (U2.out.trans (u3.mono U2.out.size))
      clear u3
      by_cases h48 : 48 ≤ (outA A (nm 3 l)).length
      · have hF3 := hid (hF2.out.trans (if_pos h48))
        rw [decide_eq_true h48]
        clear h48 hF2
        go_wp2
        go_ret
        exact ⟨ret_int hF3.out.symm, U3.out⟩
      · have hF3 := hid (hF2.out.trans (if_neg h48))
        rw [decide_eq_false h48]
        clear h48 hF2
        go_wp2
        go_ret
        exact ⟨ret_int hF3.out.symm, U3.out⟩
    · have hF2 := hid (hF.out.trans (if_pos rfl))
      clear hF c3
      go_wp2
      go_ret
      exact ⟨ret_int hF2.out.symm, U2.out⟩
theorem MapF.tight {w : World} {P : Program} {k : TypeId} {b n : Nat} {f : Lit → Option Value} (h : MapF w P k b n f) (K : Keyed P k) {ks : List Lit} (hn : ks.Nodup) (hk : ∀ kl, kl ∈ ks ↔ (f kl).isSome = true) : MapF w P k b ks.length f := by
  obtain ⟨D, h1, rfl⟩ := h
  have e := size_keys h1 K hn hk
  obtain ⟨es, clock, hb, F, _, hD⟩ := h1
  refine ⟨D, ⟨es, clock, hb, F, ?_, hD⟩, rfl⟩
  rw [hD] at e
  have e1 : es.size = ((es.toList.map (WideElems.rg P k heldR)).foldr DataW.insert []).length := by rw [length_sorted]; simp
  rw [e1]
  exact Nat.le_of_eq e
theorem Pics.out {w : World} {F : Nat → Prop} {n : Nat} {f f' : Lit → Option Value} {s : By} (hf : ∀ t, t ≠ s → f' (keyS t) = f (keyS t)) : ∀ {A : List (List (El (n + 2)))} {ps : List (Nat × Int)}, Pics w F n f A ps → ∃ qs, Pics w F n f' (outA A s) qs ∧ qs.Sublist ps
  | [], [], _ => ⟨[], trivial, List.Sublist.slnil⟩
  | [], _ :: _, h => h.elim
  | _ :: _, [], h => h.elim
  | l0 :: A, p :: ps, h => by
    obtain ⟨h1, h2, h3, h4⟩ := h
    obtain ⟨qs, q1, q2⟩ := Pics.out hf h4
    by_cases e : nm 3 l0 = s
    · refine ⟨qs, ?_, q2.cons p⟩
      unfold outA
      rw [List.filter_cons_of_neg (by simpa using e)]
      exact q1
    · refine ⟨p :: qs, ?_, q2.cons_cons p⟩
      unfold outA
      rw [List.filter_cons_of_pos (by simpa using e)]
      exact ⟨by rw [hf _ e]; exact h1, h2, h3, q1⟩
theorem out_keys {n : Nat} (A : List (List (El (n + 1)))) (s : By) : (outA A s).map (nm 3) = (A.map (nm 3)).filter (fun t => decide (t ≠ s)) := by
  unfold outA
  induction A with
  | nil => rfl
  | cons o A ih =>
    by_cases h : nm 3 o = s
    · rw [List.filter_cons_of_neg (by simpa using h), List.map_cons, List.filter_cons_of_neg (by simpa using h), ih]
    · rw [List.filter_cons_of_pos (by simpa using h), List.map_cons, List.map_cons, List.filter_cons_of_pos (by simpa using h), ih]
theorem out_nodup {n : Nat} {A : List (List (El (n + 1)))} (h : (A.map (nm 3)).Nodup) (s : By) : ((outA A s).map (nm 3)).Nodup := by
  rw [out_keys]; exact h.filter _
theorem keyS_iff {n : Nat} {A : List (List (El (n + 1)))} {k : Lit} : k ∈ A.map (fun l => keyS (nm 3 l)) ↔ ∃ l ∈ A, k = keyS (nm 3 l) := by
  rw [List.mem_map]
  exact ⟨fun ⟨q, h1, h2⟩ => ⟨q, h1, h2.symm⟩, fun ⟨q, h1, h2⟩ => ⟨q, h1, h2.symm⟩⟩
set_option maxRecDepth 20000 in
set_option maxHeartbeats 1000000 in
theorem Delete_any (n : Nat) (F : Nat → Prop) (w : World) (a m : Nat) (T : Int) (A : List (List (El (n + 2)))) (s : By) (h : ProA w F n a m T A) (hF : ∀ j, F j → j < w.heap.size ∧ j ≠ m) (hnd : (A.map (nm 3)).Nodup) (hl : A.length ≤ 48) (hs : s.length ≤ maxLen) :
    Calls Tryz.prog 50 #[ptr a, .string (bs s)] w fun e w' => e = .returned (.bool (decide ((outA A s).length < A.length))) ∧ UpB m w w' ∧ ProA w' (Nw F w w') n a m T (outA A s) := by
  have hm := h.mlt
  obtain ⟨h1, f, ps, hM, hP, hpw, hpT, hK⟩ := h
  obtain ⟨⟨a0, _⟩, _⟩ := h1.cells
  have hkey : keyOf Tryz.prog 9 (.string (bs s)) = some (keyS s) := WideMaps.keyOf_string_mk Tryz.underlying9 (by rw [bs_size]; exact hs)
  have hlk := hM.look (Maps.string_keyed Tryz.underlying9) Tryz.underlying122 (Tryz.zeroValue131 _) hkey
  have hin : decide ((outA A s).length < A.length) = (f (keyS s)).isSome := by
    rw [Bool.eq_iff_iff, decide_eq_true_eq, hK, out_len hnd]
    constructor
    · intro h
      by_cases hc : s ∈ A.map (nm 3)
      · obtain ⟨q, h1, h2⟩ := List.mem_map.1 hc
        exact ⟨q, h1, by rw [h2]⟩
      · rw [if_neg hc] at h; omega
    · rintro ⟨q, h1, h2⟩
      have hc : s ∈ A.map (nm 3) := List.mem_map.2 ⟨q, h1, by injection h2 with h2; exact h2.symm⟩
      rw [if_pos hc]
      have := List.length_pos_of_mem h1
      omega
  have H1 := hid h1
  have HM := hid hM
  have HP := hid hP
  have HK := hid hK
  have HN := hid hnd
  have HF := hid hF
  have HI := hid hin
  have HW := hid hpw
  have HT := hid hpT
  have HKy := hid hkey
  clear h1 hM hP hK hnd hF hin hpw hpT hkey
  have hval : ∃ d t, (f (keyS s)).getD (.agg #[.map none, .int .i64 0]) = .agg #[.map d, .int .i64 t] := by
    cases hf : f (keyS s) with
    | none => exact ⟨_, _, rfl⟩
    | some v =>
      obtain ⟨q, hq, hk⟩ := (HK.out (keyS s)).1 (by rw [hf]; rfl)
      obtain ⟨p, _, hfp, _⟩ := HP.out.find q hq
      rw [← hk, hf] at hfp
      obtain rfl := Option.some.inj hfp
      exact ⟨_, _, rfl⟩
  obtain ⟨d0, t0, hv0⟩ := hval
  rw [hv0] at hlk
  clear hv0
  have uZ : Below w.heap.size w (w.alloc (.cells #[.map d0, .int .i64 t0] 131)) := Below.alloc (Below.refl _ _) (Nat.le_refl _) _
  have a2 : (w.alloc (.cells #[.map d0, .int .i64 t0] 131)).cell? ⟨a, 0, none⟩ = some (.map (some m)) := cell_keep (Below.heap_alloc _ _ _ (World.block_lt_of_cell? _ _ a0)) a0
  have M2 := hid (HM.out.kept (uZ.block _ hm))
  have UZ := hid uZ
  clear uZ
  go_enter Tryz.func50, Tryz.ntmps50
  go_wp2_with (at_delete; refine wpList_delete_F rfl _ _ 122 9 rfl 131 (Maps.string_keyed Tryz.underlying9) Tryz.underlying122 m A.length f rfl M2.out _ (keyS s) rfl HKy.out trivial ?_)
  intro w3 hM3 hg3
  have U3 : UpB m w w3 := (UpB.of_below UZ.out).grown hg3 (fun k e => by cases e; exact Or.inl rfl)
  have hkeys : ∀ kl, kl ∈ (outA A s).map (fun l => keyS (nm 3 l)) ↔ (upd f (keyS s) none kl).isSome = true := fun kl => by
    rw [keyS_iff]
    unfold upd
    by_cases e : kl = keyS s
    · rw [if_pos ((same_iff (show WideAt.IsKeyLit (keyS s) from trivial)).2 e)]
      constructor
      · rintro ⟨q, h1, h2⟩
        have := (List.mem_filter.1 h1).2
        rw [e] at h2
        injection h2 with h2
        simp [h2] at this
      · intro h; cases h
    · rw [if_neg (fun h => e ((same_iff (show WideAt.IsKeyLit (keyS s) from trivial)).1 h)), HK.out]
      constructor
      · rintro ⟨q, h1, h2⟩
        exact ⟨q, (List.mem_filter.1 h1).1, h2⟩
      · rintro ⟨q, h1, h2⟩
        exact ⟨q, List.mem_filter.2 ⟨h1, by simpa using fun e2 => e (by rw [h2, e2])⟩, h2⟩
  have hM4 := hM3.tight (Maps.string_keyed Tryz.underlying9) (ProA.keys (out_nodup HN.out s)) hkeys
  rw [List.length_map] at hM4
  have hne : ∀ j, F j → j < w.heap.size → w3.heap[j]? = w.heap[j]? := fun j hj hj2 => U3.block hj2 (HF.out j hj).2
  have ham : a ≠ m := fun e => by
    subst e
    obtain ⟨D, ⟨es, clock, hb, _⟩, _⟩ := HM.out
    have h2 := H1.out
    unfold Arc2 at h2
    rw [hb] at h2
    injection h2 with h2
    cases h2
  have P3 := hid (show ProA w3 (Nw F w w3) n a m T (outA A s) by
    obtain ⟨qs, q1, q2⟩ := (HP.out.keep (w' := w3) (F' := Nw F w w3) (fun j hj => Or.inl hj) hne).out (f' := upd f (keyS s) none) (s := s) (fun t ht => by
      unfold upd
      rw [if_neg (fun h => ht (by have := (same_iff (show WideAt.IsKeyLit (keyS s) from trivial)).1 h; injection this))])
    refine ⟨H1.out.keep (U3.block H1.out.lt ham), _, qs, hM4, q1, ?_, fun p hp => HT.out p (q2.subset hp), fun k => by rw [← hkeys, keyS_iff]⟩
    exact HW.out.sublist (q2.map _))
  have U3' := hid U3
  clear hM3 hg3 hM4 hkeys hne U3
  go_wp2
  go_ret
  exact ⟨ret_bool HI.out.symm, U3'.out, P3.out⟩
end Go.Proofs.YtaokifbpakbgdaaGreatDoor
