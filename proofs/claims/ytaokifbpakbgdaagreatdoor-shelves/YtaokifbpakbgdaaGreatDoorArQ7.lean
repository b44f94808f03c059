/-
  Package archive: the archive in memory; isElsewhere, isFullFor, checkPlace.
-/
import Derived.Test.YtaokifbpakbgdaaGreatDoorArQ6
import Derived.Test.YtaokifbpakbgdaaGreatDoorArQ3
namespace Go.Proofs.YtaokifbpakbgdaaGreatDoor
open Go.RowKit Go.Maps

/-- The two cells of an archive: the map of its pictures, the turn. -/
def Arc2 (w : World) (a m : Nat) (T : Int) : Prop := w.heap[a]? = some (.cells #[.map (some m), .int .i64 T] 124 (0, 0))
theorem Arc2.cells {w : World} {a m : Nat} {T : Int} (h : Arc2 w a m T) : (w.cell? ⟨a, 0, none⟩ = some (.map (some m)) ∧ w.cell? ⟨a, 1, none⟩ = some (.int .i64 T)) ∧ w.frozen? ⟨a, 0, none⟩ = false ∧ w.frozen? ⟨a, 1, none⟩ = false := by
  unfold Arc2 at h
  simp [World.cell?, World.frozen?, h]
theorem Arc2.lt {w : World} {a m : Nat} {T : Int} (h : Arc2 w a m T) : a < w.heap.size := lt_of_block h
theorem Arc2.keep {w w' : World} {a m : Nat} {T : Int} (h : Arc2 w a m T) (k : w'.heap[a]? = w.heap[a]?) : Arc2 w' a m T := k.trans h
theorem Arc2.set {w : World} {a m : Nat} {T : Int} (h : Arc2 w a m T) (c : Int) : Arc2 (w.setCell ⟨a, 1, none⟩ (.int .i64 c)) a m c := by
  unfold Arc2 at h ⊢
  have hlt := lt_of_block h
  have h' : w.heap[a] = .cells #[.map (some m), .int .i64 T] 124 (0, 0) := by simpa [Array.getElem?_eq_getElem hlt] using h
  show (w.heap.modify a _)[a]? = _
  rw [Array.getElem?_eq_getElem (by simpa using hlt), Array.getElem_modify_self, h']
  rfl
/-- A picture's value: its description, its turn. -/
abbrev picV (d : Nat) (t : Int) : Value := .agg #[.map (some d), .int .i64 t]
abbrev keyS (s : By) : Lit := .string s
/-- The pictures: to each data set its description and its turn; turns rise. -/
def Pics (w : World) (F : Nat → Prop) (n : Nat) (f : Lit → Option Value) : List (List (El (n + 2))) → List (Nat × Int) → Prop
  | [], [] => True
  | l :: A, p :: ps => f (keyS (nm 3 l)) = some (picV p.1 p.2) ∧ F p.1 ∧ DMk w F (n + 1) p.1 24 (descG l) ∧ Pics w F n f A ps
  | _, _ => False
/-- An archive in memory. -/
def ProA (w : World) (F : Nat → Prop) (n a m : Nat) (T : Int) (A : List (List (El (n + 2)))) : Prop :=
  Arc2 w a m T ∧ ∃ f ps, MapF w Tryz.prog 9 m A.length f ∧ Pics w F n f A ps ∧ (ps.map (·.2)).Pairwise (· < ·) ∧ (∀ p ∈ ps, p.2 ≤ T) ∧ ∀ k, (f k).isSome = true ↔ ∃ l ∈ A, k = keyS (nm 3 l)
/-- What is asked of the data sets that lie in an archive. -/
def Good {n : Nat} (A : List (List (El (n + 2)))) : Prop := A.length ≤ 48 ∧ (A.map (nm 3)).Nodup ∧ ∀ l ∈ A, errS (n + 2) 0 l = 0 ∧ desE l = 0
theorem kept_name (i : Nat) : isKept (nameT i) = true := by
  unfold nameT
  split
  · decide
  split
  · decide
  split
  · decide
  · decide
theorem valG_desc {n : Nat} (l : List (El (n + 2))) (i : Nat) : valG (descG l) (nameT i) = nm i l := by
  unfold valG descG nm textE
  rw [if_pos (kept_name i)]
  cases findE l (nameT i) <;> rfl
theorem Pics.find {w : World} {F : Nat → Prop} {n : Nat} {f : Lit → Option Value} : ∀ {A : List (List (El (n + 2)))} {ps : List (Nat × Int)}, Pics w F n f A ps → ∀ l ∈ A, ∃ p ∈ ps, f (keyS (nm 3 l)) = some (picV p.1 p.2) ∧ F p.1 ∧ DMk w F (n + 1) p.1 24 (descG l)
  | [], _, _, l, hl => nomatch hl
  | _ :: _, [], h, _, _ => h.elim
  | l0 :: A, p :: ps, h, l, hl => by
    obtain ⟨h1, h2, h3, h4⟩ := h
    rcases List.mem_cons.1 hl with rfl | hl
    · exact ⟨p, List.mem_cons_self, h1, h2, h3⟩
    · obtain ⟨q, hq, r⟩ := Pics.find h4 l hl
      exact ⟨q, List.mem_cons_of_mem _ hq, r⟩
theorem Pics.keep {w w' : World} {F F' : Nat → Prop} {n : Nat} {f : Lit → Option Value} (hF : ∀ j, F j → F' j) (hk : ∀ j, F j → j < w.heap.size → w'.heap[j]? = w.heap[j]?) : ∀ {A : List (List (El (n + 2)))} {ps : List (Nat × Int)}, Pics w F n f A ps → Pics w' F' n f A ps
  | [], [], _ => trivial
  | [], _ :: _, h => h.elim
  | _ :: _, [], h => h.elim
  | l0 :: A, p :: ps, h => by
    obtain ⟨h1, h2, h3, h4⟩ := h
    exact ⟨h1, hF _ h2, h3.keep (hk _ h2 h3.lt) hF hk, Pics.keep hF hk h4⟩
theorem ProA.keep {w w' : World} {F F' : Nat → Prop} {n a m : Nat} {T : Int} {A : List (List (El (n + 2)))} (h : ProA w F n a m T A) (ha : w'.heap[a]? = w.heap[a]?) (hm : w'.heap[m]? = w.heap[m]?) (hF : ∀ j, F j → F' j) (hk : ∀ j, F j → j < w.heap.size → w'.heap[j]? = w.heap[j]?) : ProA w' F' n a m T A := by
  obtain ⟨h1, f, ps, h2, h3, h4, h5, h6⟩ := h
  exact ⟨h1.keep ha, f, ps, h2.kept hm, h3.keep hF hk, h4, h5, h6⟩
theorem ProA.mlt {w : World} {F : Nat → Prop} {n a m : Nat} {T : Int} {A : List (List (El (n + 2)))} (h : ProA w F n a m T A) : m < w.heap.size := by
  obtain ⟨_, f, ps, h2, _⟩ := h
  exact h2.lt
theorem ProA.up {w w' : World} {F : Nat → Prop} {n a m : Nat} {T : Int} {A : List (List (El (n + 2)))} (h : ProA w F n a m T A) (k : Below w.heap.size w w') : ProA w' F n a m T A :=
  h.keep (k.block _ h.1.lt) (k.block _ h.mlt) (fun _ h => h) (fun j _ hj => k.block j hj)
theorem DMk.up {w w' : World} {F : Nat → Prop} {n b m : Nat} {g : Int → Option (El (n + 1))} (h : DMk w F n b m g) (k : Below w.heap.size w w') : DMk w' F n b m g := h.keep (k.block _ h.lt) (fun _ h => h) (fun j _ hj => k.block j hj)
theorem RanF.left_eq {w : World} {P : Program} {k : TypeId} {b r n : Nat} {f : Lit → Option Value} {left : Lit → Bool} {cnt : Nat} (h : RanF w P k b r n f left cnt) : w.rangeLeft b r = cnt := by
  obtain ⟨D, h1, _⟩ := h
  exact h1.left_eq
theorem RanF.up {w w' : World} {P : Program} {k : TypeId} {b r n : Nat} {f : Lit → Option Value} {left : Lit → Bool} {cnt : Nat} (h : RanF w P k b r n f left cnt) (u : Below w.heap.size w w') : RanF w' P k b r n f left cnt := by
  obtain ⟨D, h1, h2⟩ := h
  exact ⟨D, h1.kept (row := none) ⟨u.os, u.tape, u.output, u.size, fun j hj _ => u.block j hj⟩ (by simp) (by simp), h2⟩
theorem clash_spl {n : Nat} (l o : List (El (n + 2))) : (splG (descG l) (descG o) 2097166 2097165 || splG (descG l) (descG o) 2097165 1048608) = clash l o := by
  have h0 := fun l : List (El (n + 2)) => valG_desc l 0
  have h1 := fun l : List (El (n + 2)) => valG_desc l 1
  have h2 := fun l : List (El (n + 2)) => valG_desc l 2
  have t0 : nameT 0 = 1048608 := rfl
  have t1 : nameT 1 = 2097165 := rfl
  have t2 : nameT 2 = 2097166 := rfl
  rw [t0] at h0; rw [t1] at h1; rw [t2] at h2
  unfold splG clash
  rw [h0, h0, h1, h1, h2, h2]
  have e : ∀ a b : By, decide (a = b) = decide (b = a) := fun a b => decide_eq_decide.2 ⟨Eq.symm, Eq.symm⟩
  have e' : ∀ a b : By, decide (a ≠ b) = decide (b ≠ a) := fun a b => decide_eq_decide.2 ⟨fun h e => h e.symm, fun h e => h e.symm⟩
  rw [e (nm 2 l), e' (nm 1 l), e (nm 1 l), e' (nm 0 l)]
theorem out_any {n : Nat} (A : List (List (El (n + 1)))) (s : By) (p : List (El (n + 1)) → Bool) : (outA A s).any p = A.any (fun o => decide (nm 3 o ≠ s) && p o) := by
  unfold outA
  induction A with
  | nil => rfl
  | cons o A ih =>
    rw [List.any_cons]
    by_cases h : nm 3 o ≠ s
    · rw [List.filter_cons_of_pos (by simpa using h), List.any_cons, ih, decide_eq_true h, Bool.true_and]
    · rw [List.filter_cons_of_neg (by simpa using h), ih, decide_eq_false h, Bool.false_and, Bool.false_or]
theorem nodup_eq {α β : Type} {f : α → β} : ∀ {l : List α}, (l.map f).Nodup → ∀ {x y : α}, x ∈ l → y ∈ l → f x = f y → x = y
  | [], _, _, _, hx, _, _ => nomatch hx
  | z :: l, h, x, y, hx, hy, e => by
    rw [List.map_cons, List.nodup_cons] at h
    rcases List.mem_cons.1 hx with hx | hx <;> rcases List.mem_cons.1 hy with hy | hy
    · rw [hx, hy]
    · exact absurd (List.mem_map.2 ⟨y, hy, by rw [← e, hx]⟩) h.1
    · exact absurd (List.mem_map.2 ⟨x, hx, by rw [e, hy]⟩) h.1
    · exact nodup_eq h.2 hx hy e
set_option maxRecDepth 20000 in
set_option maxHeartbeats 2000000 in
theorem isElsewhere_any (n : Nat) (F Fd : Nat → Prop) (w : World) (a m dB : Nat) (T : Int) (A : List (List (El (n + 2)))) (l : List (El (n + 2))) (h : ProA w F n a m T A) (hd : DMk w Fd (n + 1) dB 24 (descG l)) (hnd : (A.map (nm 3)).Nodup) :
    Calls Tryz.prog 158 #[ptr a, .map (some dB)] w fun e w' => e = .returned (.bool ((outA A (nm 3 l)).any (clash l))) ∧ Below w.heap.size w w' := by
  obtain ⟨h1, f, ps, hM, hP, _, _, hK⟩ := h
  obtain ⟨⟨a0, _⟩, _⟩ := h1.cells
  have HM := hid hM
  have HP := hid hP
  have HK := hid hK
  have HD := hid hd
  clear h1 hM hP hK hd
  rw [out_any]
  go_enter Tryz.func158, Tryz.ntmps158
  go_wp2_with (at_range; refine wpList_range_F rfl _ 122 rfl 9 131 (Maps.string_keyed Tryz.underlying9) Tryz.underlying122 m A.length f rfl HM.out ?_)
  intro w0 cnt0 hr0 hg0 hs0
  have hB0 : Hid (Below w.heap.size w w0) := ⟨hg0.os, hg0.tape, hg0.output, hg0.size, fun j hj => hg0.block j hj (by simp)⟩
  have HR0 := hid hr0
  clear hr0 hg0
  go_wp2_with fail
  go_loopw [5] (fun _ wr => ∃ (left : Lit → Bool) (cnt : Nat), Hid (RanF wr Tryz.prog 9 m w.heap.size A.length f left cnt) ∧ Hid (∀ o ∈ A, left (keyS (nm 3 o)) = false → (decide (nm 3 o ≠ nm 3 l) && clash l o) = false) ∧ Hid (Below w.heap.size w wr)) (fun _ wr => wr.rangeLeft m w.heap.size)
  case atStart => exact ⟨_, cnt0, HR0, fun o ho hf => absurd ((HK.out (keyS (nm 3 o))).2 ⟨o, ho, rfl⟩) (by rw [hf]; decide), hB0⟩
  case round =>
    obtain ⟨left, cnt, hR, hL, hU⟩ := hrel
    go_wp2_with (at_next; refine wpList_next_F rfl _ rfl 9 (Maps.string_keyed Tryz.underlying9) Tryz.underlying9 m w.heap.size A.length f left cnt rfl hR.out ?_ ?_)
    · intro _ hl0
      have hF := hid (show A.any (fun o => decide (nm 3 o ≠ nm 3 l) && clash l o) = false by
        rw [List.any_eq_false]
        intro o ho
        rw [hL.out o ho (hl0 _)]
        decide)
      go_wp2
      go_ret
      exact ⟨ret_bool hF.out.symm, hU.out⟩
    · intro x c w2 cnt2 hx hlx hfx hr2 hlt hg2 hs2 hen
      obtain ⟨o, ho, ek⟩ := (HK.out (.string x.data.toList)).1 (by rw [hfx]; rfl)
      have ex : x = bs (nm 3 o) := by
        have : x.data.toList = nm 3 o := by injection ek
        rw [← this]; rfl
      subst ex
      obtain ⟨p, _, hfp, hFp, hDp⟩ := HP.out.find o ho
      have ec : c = picV p.1 p.2 := Option.some.inj (hfx.symm.trans hfp)
      subst ec
      have U2 : Below w.heap.size w w2 := hU.out.grown hg2 hU.out.size (fun k e => by cases e; exact Nat.le_refl _)
      have U3 := hid (Below.alloc U2 U2.size (.cells #[.map (some p.1), .int .i64 p.2] 131))
      have R3 := hid (hr2.up (Below.alloc (Below.refl _ w2) (Nat.le_refl _) (.cells #[.map (some p.1), .int .i64 p.2] 131)))
      have c1 := hid (dvalue_any _ Fd (n + 1) dB 24 (descG l) 524312 (HD.out.up U3.out) (by decide))
      have c2 := hid (splits_any _ Fd F (n + 1) dB p.1 24 24 (descG l) (descG o) 2097166 2097165 (HD.out.up U3.out) (hDp.up U3.out) (by decide) (by decide))
      have c3 := hid (splits_any _ Fd F (n + 1) dB p.1 24 24 (descG l) (descG o) 2097165 1048608 (HD.out.up U3.out) (hDp.up U3.out) (by decide) (by decide))
      have HO := hid ho
      have HLT := hid hlt
      clear hr2 hg2 hs2 U2 hfx hfp hFp hDp ek ho hlt
      have hcl := hid (clash_spl l o)
      have hv3 := hid (valG_desc l 3)
      change Hid (valG (descG l) 524312 = nm 3 l) at hv3
      rw [hv3.out] at c1
      have hR := hid hR
      have hLx : Hid (∀ q ∈ A, (left (keyS (nm 3 q)) && !(keyS (nm 3 q)).sameKey (.string (bs (nm 3 o)).data.toList)) = false → (nm 3 q = nm 3 o ∨ (decide (nm 3 q ≠ nm 3 l) && clash l q) = false)) := fun q hq h => by
        cases hlq : left (keyS (nm 3 q)) with
        | false => exact Or.inr (hL.out q hq hlq)
        | true =>
          rw [hlq, Bool.true_and] at h
          have h2 : (keyS (nm 3 q)).sameKey (.string (bs (nm 3 o)).data.toList) = true := by simpa using h
          have h3 := WideAt.sameKey_eq h2
          exact Or.inl (by injection h3)
      have hND := hid hnd
      go_wp2_with fail
      go_at_call 97
      refine c1.out.mono ?_
      rintro e w3 ⟨rfl, rfl⟩
      have e1 := bs_toList (nm 3 o)
      have e2 := bs_toList (nm 3 l)
      have hnext : Hid ((decide (nm 3 o ≠ nm 3 l) && clash l o) = false → ∀ q ∈ A, (left (keyS (nm 3 q)) && !(keyS (nm 3 q)).sameKey (.string (bs (nm 3 o)).data.toList)) = false → (decide (nm 3 q ≠ nm 3 l) && clash l q) = false) := fun h q hq hl => by
        rcases hLx.out q hq hl with e | e
        · rw [nodup_eq hND.out hq HO.out e]; exact h
        · exact e
      have hfin : Hid ((decide (nm 3 o ≠ nm 3 l) && clash l o) = true → A.any (fun o => decide (nm 3 o ≠ nm 3 l) && clash l o) = true) := fun h => List.any_eq_true.2 ⟨o, HO.out, h⟩
      clear c1 hLx hL hND
      by_cases hno : nm 3 o = nm 3 l
      · have hb : (nm 3 o == nm 3 l) = true := by simpa using hno
        have hL3 := hid (hnext.out (by rw [decide_eq_false (fun h => h hno), Bool.false_and]))
        clear hnext hfin hno c2 c3
        go_wp2
        go_roundw
        case rel => exact ⟨_, cnt2, R3, hL3, U3⟩
        case measure => rw [R3.out.left_eq, hR.out.out.left_eq]; exact HLT.out
      · have hb : (nm 3 o == nm 3 l) = false := by simpa using hno
        rw [decide_eq_true hno, Bool.true_and] at hnext hfin
        clear hno
        go_wp2_with fail
        go_at_call 217
        refine c2.out.mono ?_
        clear c2
        rintro e w4 ⟨rfl, rfl⟩
        generalize splG (descG l) (descG o) 2097166 2097165 = s1 at hcl
        cases s1
        · rw [Bool.false_or] at hcl
          go_wp2_with fail
          go_at_call 217
          refine c3.out.mono ?_
          clear c3
          rintro e w5 ⟨rfl, rfl⟩
          generalize splG (descG l) (descG o) 2097165 1048608 = s2 at hcl
          cases s2
          · have hL3 := hid (hnext.out hcl.out.symm)
            clear hnext hfin hcl
            go_wp2
            go_roundw
            case rel => exact ⟨_, cnt2, R3, hL3, U3⟩
            case measure => rw [R3.out.left_eq, hR.out.out.left_eq]; exact HLT.out
          · have hF := hid (hfin.out hcl.out.symm)
            clear hnext hfin hcl
            go_wp2
            go_ret
            exact ⟨ret_bool hF.out.symm, U3.out⟩
        · have hF := hid (hfin.out (hcl.out.symm.trans (Bool.true_or _)))
          clear hnext hfin hcl c3
          go_wp2
          go_ret
          exact ⟨ret_bool hF.out.symm, U3.out⟩
theorem MapF.look {w : World} {P : Program} {t k e : TypeId} {b n : Nat} {f : Lit → Option Value} (h : MapF w P k b n f) (K : Keyed P k) (ht : P.underlying t = some (.map k e)) {z : Value} (hz : (zeroValue e).run P w = .ok z w) {key : Value} {kl : Lit} (hkey : keyOf P k key = some kl) :
    (Instr.lookup t (.map (some b)) key true).run P w = .ok (.tuple #[(f kl).getD z, .bool (f kl).isSome]) w := by
  obtain ⟨D, h1, rfl⟩ := h
  obtain ⟨v, ps, hrun, hv⟩ := h1.look_ok K ht hz (zd := .held z) (zp := []) rfl hkey
  obtain ⟨e1, e2⟩ := look_view hv
  rw [hrun, e1, e2]
theorem MapF.len {w : World} {P : Program} {t k e : TypeId} {b n : Nat} {f : Lit → Option Value} (h : MapF w P k b n f) (K : Keyed P k) (ht : P.underlying t = some (.map k e)) {ks : List Lit} (hn : ks.Nodup) (hk : ∀ kl, kl ∈ ks ↔ (f kl).isSome = true) (ty : TypeId) :
    (Builtin.len_ #[t] ty #[.map (some b)]).run P w = .ok (.int .i64 ks.length) w := by
  obtain ⟨D, h1, rfl⟩ := h
  rw [h1.len ht ty, size_keys h1 K hn hk]
theorem MapF.drew {w : World} {P : Program} {k : TypeId} {b n : Nat} {f : Lit → Option Value} (h : MapF w P k b n f) : MapF w.drew P k b n f := h.kept rfl
theorem nm_short {n d : Nat} {l : List (El (n + 1))} (h : errS (n + 1) d l = 0) (i : Nat) : (nm i l).length ≤ 64 := by
  obtain ⟨_, _, h2⟩ := errS_props h
  unfold nm textE findE
  cases hf : l.find? (fun x => decide (x.1 = nameT i)) with
  | none => simp
  | some x => exact (h2 x (List.mem_of_find?_eq_some hf)).2.2.1
/-- The keys of an archive. -/
theorem ProA.keys {n : Nat} {A : List (List (El (n + 2)))} (hnd : (A.map (nm 3)).Nodup) : (A.map (fun l => keyS (nm 3 l))).Nodup := by
  rw [List.Nodup, List.pairwise_map] at hnd ⊢
  exact hnd.imp (fun h e => h (by injection e))
theorem out_len {n : Nat} {A : List (List (El (n + 1)))} (hnd : (A.map (nm 3)).Nodup) (s : By) : (outA A s).length = if s ∈ A.map (nm 3) then A.length - 1 else A.length := by
  unfold outA
  induction A with
  | nil => simp
  | cons o A ih =>
    rw [List.map_cons, List.nodup_cons] at hnd
    have ih := ih hnd.2
    by_cases h : nm 3 o = s
    · subst h
      rw [List.filter_cons_of_neg (by simp), ih, if_neg hnd.1, List.map_cons, if_pos List.mem_cons_self]; simp
    · rw [List.filter_cons_of_pos (by simpa using h), List.length_cons, ih, List.map_cons]
      by_cases h2 : s ∈ A.map (nm 3)
      · rw [if_pos h2, if_pos (List.mem_cons_of_mem _ h2), List.length_cons]
        have : 0 < A.length := by
          cases A with
          | nil => cases h2
          | cons _ _ => simp
        omega
      · rw [if_neg h2, if_neg (fun e => by rcases List.mem_cons.1 e with e | e; (· exact h e.symm); exact h2 e), List.length_cons]
end Go.Proofs.YtaokifbpakbgdaaGreatDoor
