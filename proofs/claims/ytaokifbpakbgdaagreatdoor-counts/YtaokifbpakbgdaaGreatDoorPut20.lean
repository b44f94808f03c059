/-
  Several texts in one; what each one has stands at its head.
-/
import Derived.Test.YtaokifbpakbgdaaGreatDoorPut18
import Derived.Test.YtaokifbpakbgdaaGreatDoorPut16
/- What the counts of something must be (no program in it). -/
namespace Go.Proofs.YtaokifbpakbgdaaGreatDoor
open Go.RowKit
/-- What is asked of something: its name, and how many it has. -/
def ownQ (k : Nat) (nf : Nat → By) : List (El 3) := [flE 2 (nameT k) (kindT (nameT k)) (nf k), flE 2 (cntT k) [73, 83] []]
def subQ (k : Nat) : List (El 3) := [flE 2 (nameT k) (kindT (nameT k)) []]
theorem cntT_facts : ∀ k, k < 3 → cntT k ∈ tagsQ ∧ kindT (cntT k) = [73, 83] ∧ rowT (cntT k) ≤ k ∧ ∀ i, i < 4 → nameT i ≠ cntT k := by decide
theorem nameT_row : ∀ k, k < 4 → nameT k ∈ tagsQ ∧ rowT (nameT k) ≤ k ∧ ∀ i, i < k → nameT k ≠ nameT i := by decide
theorem ownQ_ok {k : Nat} (hk : k < 3) {nf : Nat → By} (hn : ∀ i, i < 4 → NmOk (kindT (nameT i)) (nf i)) : XOk k (ownQ k nf) ∧ ∀ x ∈ ownQ k nf, matchE x.2.1 x.2.2.1 [] = 0 := by
  obtain ⟨c1, c2, c3, c4⟩ := cntT_facts k hk
  obtain ⟨m1, m2, m3⟩ := nameT_row k (by omega)
  obtain ⟨h1, h2, h3, h4, h5, h6⟩ := hn k (by omega)
  refine ⟨⟨by show 2 ≤ 8; decide, ?_, fun x hx => ?_⟩, fun x hx => ?_⟩
  · show [nameT k, cntT k].Nodup
    simp [c4 k (by omega)]
  · unfold ownQ at hx
    simp only [List.mem_cons, List.not_mem_nil, or_false] at hx
    rcases hx with rfl | rfl
    · exact ⟨nameT k, nf k, rfl, m1, m2, m3, h3, h4⟩
    · exact ⟨cntT k, [], by rw [c2], c1, c3, fun i hi e => c4 i (by omega) e.symm, by decide, by simp⟩
  · unfold ownQ at hx
    simp only [List.mem_cons, List.not_mem_nil, or_false] at hx
    rcases hx with rfl | rfl
    · exact (name_pat (kindT_nm k (by omega)) (hn k (by omega))).2
    · show matchE [73, 83] [] [] = 0
      decide
theorem subQ_ok {k : Nat} (hk : k < 4) : XOk k (subQ k) ∧ ∀ x ∈ subQ k, matchE x.2.1 x.2.2.1 [] = 0 := by
  obtain ⟨m1, m2, m3⟩ := nameT_row k hk
  refine ⟨⟨by show 1 ≤ 8; decide, by simp [subQ], fun x hx => ?_⟩, fun x hx => ?_⟩
  · unfold subQ at hx
    rw [List.mem_singleton] at hx
    subst hx
    exact ⟨nameT k, [], rfl, m1, m2, m3, by decide, by simp⟩
  · unfold subQ at hx
    rw [List.mem_singleton] at hx
    subst hx
    have : ∀ k, k < 4 → matchE (kindT (nameT k)) [] [] = 0 := by decide
    exact this k hk
theorem own_one {A : List (List (El 3))} (hG : Good (n := 1) A) (hD : ∀ l ∈ A, Desc l) {l : List (El 3)} (hl : l ∈ A) {k : Nat} (hk : k < 3) :
    ansS A k (askQ k (fun i => nm (n := 2) i l) (ownQ k (fun i => nm (n := 2) i l))) = [(askQ k (fun i => nm (n := 2) i l) (ownQ k (fun i => nm (n := 2) i l))).map (ansE (gS (n := 1) A k (nm (n := 2) k l)))] := by
  obtain ⟨hx, _⟩ := ownQ_ok hk (nf := fun i => nm (n := 2) i l) (fun i hi => desc_nm (hD l hl) hi)
  refine ansS_one (fun s => ?_)
  rw [names_ask hG hD (by omega) (Or.inr (hD l hl)) (fun i _ => rfl) hx]
  have hval : ∀ s, (∃ o ∈ A, nm (n := 2) k o = s) → (∀ t ∈ tagsQ, chk (kindT t) (valG (gS (n := 1) A k s) t) = 0) ∧ valG (gS (n := 1) A k s) (nameT k) = s := fun s hs => by
    obtain ⟨hm, hms⟩ := lastA_mem (n := 2) hs
    refine ⟨fun t ht => tell_chk hG.1 (hG.2.2 _ hm).2 ht, ?_⟩
    obtain ⟨q1, q2⟩ := nameT_Q k (by omega)
    exact (tell_val q1 q2).trans hms
  constructor
  · rintro ⟨⟨o, ho, hos, _⟩, h2⟩
    obtain ⟨v1, v2⟩ := hval s ⟨o, ho, hos⟩
    have h3 := h2 (flE 2 (nameT k) (kindT (nameT k)) (nm (n := 2) k l)) List.mem_cons_self
    have h4 : matchV (kindT (nameT k)) (nm (n := 2) k l) (valG (gS (n := 1) A k s) (nameT k)) = true := h3
    rw [name_match (kindT_nm k (by omega)) (desc_nm (hD l hl) (by omega)) (v1 _ (nameT_Q k (by omega)).1), v2] at h4
    exact of_decide_eq_true h4
  · rintro rfl
    obtain ⟨v1, v2⟩ := hval (nm (n := 2) k l) ⟨l, hl, rfl⟩
    refine ⟨⟨l, hl, rfl, Or.inr rfl⟩, fun x hx => ?_⟩
    unfold ownQ at hx
    simp only [List.mem_cons, List.not_mem_nil, or_false] at hx
    rcases hx with rfl | rfl
    · show matchV (kindT (nameT k)) (nm (n := 2) k l) (valG (gS (n := 1) A k (nm (n := 2) k l)) (nameT k)) = true
      rw [name_match (kindT_nm k (by omega)) (desc_nm (hD l hl) (by omega)) (v1 _ (nameT_Q k (by omega)).1), v2]
      exact decide_eq_true rfl
    · obtain ⟨c1, c2, _⟩ := cntT_facts k hk
      have := v1 _ c1
      rw [c2] at this
      exact match_empty this
theorem own_text {A : List (List (El 3))} {l : List (El 3)} (hl : l ∈ A) (hD : ∀ l ∈ A, Desc l) {k : Nat} (hk : k < 3) {s : By} (hs : s = nm (n := 2) k l) :
    textE (n := 2) ((askQ k (fun i => nm (n := 2) i l) (ownQ k (fun i => nm (n := 2) i l))).map (ansE (gS (n := 1) A k s))) (cntT k) = Lib.decDigits (cntB A k (nm (n := 2) k l)) := by
  obtain ⟨hx, _⟩ := ownQ_ok hk (nf := fun i => nm (n := 2) i l) (fun i hi => desc_nm (hD l hl) hi)
  have hm : flE 2 (cntT k) [73, 83] [] ∈ askQ k (fun i => nm (n := 2) i l) (ownQ k (fun i => nm (n := 2) i l)) := askQ_mem.2 (Or.inr (Or.inr (List.mem_cons_of_mem _ List.mem_cons_self)))
  rw [show textE (n := 2) ((askQ k (fun i => nm (n := 2) i l) (ownQ k (fun i => nm (n := 2) i l))).map (ansE (gS (n := 1) A k s))) (cntT k) = valG (gS (n := 1) A k s) (cntT k) from find_ans (t := cntT k) (askQ_find (by omega) hx hm)]
  obtain ⟨_, hms⟩ := lastA_mem (n := 2) (A := A) (lvl := k) (s := s) ⟨l, hl, hs.symm⟩
  show valG (tellN (n := 1) A k (lastA (n := 2) A k s) 3) (cntT k) = _
  rw [tell_cnt hk, hms, hs]
theorem sub_len {A : List (List (El 3))} (hG : Good (n := 1) A) (hD : ∀ l ∈ A, Desc l) {l : List (El 3)} (hl : l ∈ A) {k : Nat} (hk : k < 3) :
    (ansS A (k + 1) (askQ (k + 1) (fun i => nm (n := 2) i l) (subQ (k + 1)))).length = cntB A k (nm (n := 2) k l) := by
  rw [ansS_len]
  unfold cntB cntA
  refine nodup_len (namesF_nodup _ _ _) (seenA_nodup _ _ _ List.nodup_nil) (fun s => ?_)
  rw [names_ask hG hD (by omega) (Or.inr (hD l hl)) (fun i _ => rfl) (subQ_ok (by omega)).1, seenA_mem]
  constructor
  · rintro ⟨⟨o, ho, hos, h | h⟩, _⟩
    · omega
    · refine Or.inr ⟨o, List.mem_filter.2 ⟨ho, ?_⟩, hos⟩
      exact beq_iff_eq.2 h
  · rintro (h | ⟨o, ho, hos⟩)
    · cases h
    · obtain ⟨h1, h2⟩ := List.mem_filter.1 ho
      refine ⟨⟨o, h1, hos, Or.inr (beq_iff_eq.1 h2)⟩, fun x hx => ?_⟩
      unfold subQ at hx
      rw [List.mem_singleton] at hx
      subst hx
      obtain ⟨hm, _⟩ := lastA_mem (n := 2) (A := A) (lvl := k + 1) (s := s) ⟨o, h1, hos⟩
      exact match_empty (tell_chk hG.1 (hG.2.2 _ hm).2 (nameT_Q (k + 1) (by omega)).1)
theorem cntB_pos {A : List (List (El 3))} {l : List (El 3)} (hl : l ∈ A) (k : Nat) : 0 < cntB A k (nm (n := 2) k l) := by
  unfold cntB cntA
  have : nm (n := 2) (k + 1) l ∈ seenA (k + 1) (A.filter (fun o => nm (n := 2) k o == nm (n := 2) k l)) [] := (seenA_mem _ _ _ _).2 (Or.inr ⟨l, List.mem_filter.2 ⟨hl, beq_iff_eq.2 rfl⟩, rfl⟩)
  exact List.length_pos_of_mem this
theorem cnt_match {n : Nat} (h : n ≤ 48) : matchV [73, 83] (Lib.decDigits n) (dgs 2 n) = true ∧ matchE [73, 83] (Lib.decDigits n) (dgs 2 n) = 0 := by
  rw [← decB_dec (by omega)]
  have : ∀ n, n ≤ 48 → matchV [73, 83] (decB n) (dgs 2 n) = true ∧ matchE [73, 83] (decB n) (dgs 2 n) = 0 := by decide
  exact this n h
end Go.Proofs.YtaokifbpakbgdaaGreatDoor

/- RegLoc, where an edge that does not bind may lead on. -/
namespace Go.Proofs.YtaokifbpakbgdaaGreatDoor
open Go
variable {P : Program} {ops : Array Oper} {Q : Exit → Act → World → Prop}
theorem wpAny_inv2 (I : (Nat → Prop) → Act → World → Prop) (hac : ∀ (i : Nat) (o : Oper), ops[i]? = some o → ∀ e ∈ o.after.toList, Region.binds .any e = true → e.on < i)
    (hs : ∀ (D : Nat → Prop) (a : Act) (w : World) (i : Nat) (o : Oper), ops[i]? = some o → ¬ D i → (∀ e ∈ o.after.toList, Region.binds .any e = true → D e.on) → I D a w → wpOp P ops Q i (I (fun j => D j ∨ j = i)) a w)
    (he : ∀ (D : Nat → Prop) (a : Act) (w : World), (∀ j, j < ops.size → D j) → I D a w → Q .normal a w) :
    ∀ (fuel : Nat) (listed : Array Bool) (a : Act) (w : World), listed.size = ops.size → undone ops listed ≤ fuel → I (fun j => listed.getD j false = true) a w → wpAny P .any ops Q fuel listed a w := by
  have hend : ∀ (listed : Array Bool), listed.size = ops.size → Region.ready .any ops listed = [] → ∀ j, j < ops.size → listed.getD j false = true := by
    intro listed hsz hr j
    induction j using Nat.strongRecOn with
    | _ j ih =>
      intro hj
      cases hc : listed.getD j false with
      | true => rfl
      | false =>
        exfalso
        have hm : j ∈ Region.ready .any ops listed := by
          unfold Region.ready
          rw [List.mem_filter]
          refine ⟨List.mem_range.2 hj, ?_⟩
          have h1 : listed.getD j true = false := by
            rw [Array.getD_eq_getD_getElem?] at hc ⊢
            rw [Array.getElem?_eq_getElem (by omega)] at hc ⊢
            exact hc
          rw [h1, Array.getElem?_eq_getElem hj]
          simp only [Bool.not_false, Bool.true_and, Option.map_some, Option.getD_some]
          rw [Array.all_eq_true']
          intro e hem
          by_cases hbd : Region.binds .any e = true
          · have hlt := hac j _ (Array.getElem?_eq_getElem hj) e (Array.mem_toList_iff.2 hem) hbd
            rw [ih e.on hlt (by omega)]
            simp
          · simp [hbd]
        rw [hr] at hm
        cases hm
  intro fuel
  induction fuel with
  | zero =>
    intro listed a w hsz hu hI
    have hz : Region.ready .any ops listed = [] := by
      have h0 : (List.range ops.size).filter (fun i => !listed.getD i true) = [] := List.eq_nil_of_length_eq_zero (by unfold undone at hu; omega)
      apply List.eq_nil_iff_forall_not_mem.2
      intro i hi
      unfold Region.ready at hi
      rw [List.mem_filter, Bool.and_eq_true] at hi
      have : i ∈ (List.range ops.size).filter (fun i => !listed.getD i true) := List.mem_filter.2 ⟨hi.1, hi.2.1⟩
      rw [h0] at this
      cases this
    exact ⟨hz, he _ a w (fun j hj => hend listed hsz hz j hj) hI⟩
  | succ fuel ih =>
    intro listed a w hsz hu hI
    refine ⟨fun hz => he _ a w (fun j hj => hend listed hsz hz j hj) hI, fun i hi => ?_⟩
    unfold Region.ready at hi
    rw [List.mem_filter, Bool.and_eq_true] at hi
    obtain ⟨hir, h1, h2⟩ := hi
    have hil := List.mem_range.1 hir
    rw [Array.getElem?_eq_getElem hil] at h2
    simp only [Option.map_some, Option.getD_some] at h2
    rw [Array.all_eq_true'] at h2
    have hnd : ¬ listed.getD i false = true := by
      rw [Array.getD_eq_getD_getElem?, Array.getElem?_eq_getElem (by omega)] at h1 ⊢
      simp only [Option.getD_some] at h1 ⊢
      intro h
      rw [h] at h1
      cases h1
    refine wpOp_mono (fun a' w' hk => ?_) (hs _ a w i _ (Array.getElem?_eq_getElem hil) hnd (fun e hem hb => ?_) hI)
    · refine ih _ a' w' (by simpa using hsz) ?_ ?_
      · have : undone ops (listed.setIfInBounds i true) < undone ops listed := by
          unfold undone
          refine filter_lt (x := i) (fun y hy => ?_) hir h1 ?_
          · by_cases e : y = i
            · subst e; exact h1
            · rw [Array.getD_eq_getD_getElem?, Array.getElem?_setIfInBounds_ne (by omega)] at hy
              rw [Array.getD_eq_getD_getElem?]
              exact hy
          · rw [Array.getD_eq_getD_getElem?, Array.getElem?_setIfInBounds_self_of_lt (by omega)]
            rfl
        omega
      · rw [listed_set (by omega)]
        exact hk
    · have := h2 e (Array.mem_toList_iff.1 hem)
      rw [hb] at this
      simpa using this
def plainOps2 (l : List Oper) (N : Nat) : Bool := (List.range l.length).all (fun i => (l[i]?).all (fun o => o.after.toList.all (fun e => decide (e.on < i) || !Region.binds .any e) && o.guard.isNone && (o.dst.all (fun d => decide (d < N) && (List.range l.length).all (fun j => decide (j = i) || ((l[j]?).all (fun o' => decide (o'.dst ≠ some d))))))))
theorem wp_region_list2 {id : Nat} {a : Act} {w : World} {l : List Oper} (N n : Nat) (hN : a.tmps.size = N) (hn : l.length = n + 1) (hm : P.follows .mixedOrders = true) (hac : plainOps2 l N = true) (hla : lastOp l n = true) (S : World → Prop) (VL : List (Value → World → Prop)) (h0 : S w.drew)
    (hs : EachOp (OpC P Q a l S VL) 0 (l.take n))
    (he : ∀ (vs : Nat → Value) (W : World) (o : Oper), l[n]? = some o → S W → (∀ j, j < n → vAt VL j (vs j) W) → o.wp P (putAll vs (l.take n) 0 a) W (fun a'' W' => Q .normal a'' W') Q) : (Code.region id l.toArray true).wp P Q a w := by
  subst hN
  have hall : ∀ (i : Nat) (o : Oper), l[i]? = some o → (∀ e ∈ o.after.toList, Region.binds .any e = true → e.on < i) ∧ o.guard = none ∧ ∀ d : Tmp, o.dst = some d → d < a.tmps.size ∧ ∀ (j : Nat) (o' : Oper), l[j]? = some o' → o'.dst = some d → j = i := by
    intro i o ho
    have hi := (List.getElem?_eq_some_iff.1 ho).1
    unfold plainOps2 at hac
    have h1 := List.all_eq_true.1 hac i (List.mem_range.2 hi)
    rw [ho] at h1
    simp only [Option.all_some, Bool.and_eq_true] at h1
    obtain ⟨⟨h2, h3⟩, h4⟩ := h1
    refine ⟨fun e hem hbd => by have h := List.all_eq_true.1 h2 e hem; rw [hbd] at h; simpa using h, by simpa using h3, fun d hd => ?_⟩
    rw [hd] at h4
    simp only [Option.all_some, Bool.and_eq_true, decide_eq_true_eq] at h4
    refine ⟨h4.1, fun j o' hj hd' => ?_⟩
    have h5 := List.all_eq_true.1 h4.2 j (List.mem_range.2 (List.getElem?_eq_some_iff.1 hj).1)
    rw [hj] at h5
    simp only [Option.all_some, Bool.or_eq_true, decide_eq_true_eq] at h5
    rcases h5 with h5 | h5
    · exact h5
    · exact absurd hd' h5
  have hol : l[n]? = some (l[n]'(by omega)) := List.getElem?_eq_getElem (by omega)
  have hlast : ∀ j, j < n → ∃ e ∈ (l[n]'(by omega)).after.toList, e.on = j ∧ Region.binds .any e = true := by
    intro j hj
    unfold lastOp at hla
    rw [hol] at hla
    simp only [Option.all_some] at hla
    obtain ⟨e, hem, he⟩ := List.any_eq_true.1 (List.all_eq_true.1 hla j (List.mem_range.2 hj))
    simp only [Bool.and_eq_true, decide_eq_true_eq] at he
    exact ⟨e, hem, he.1, he.2⟩
  refine wp_region_any hm (wpAny_inv2 (ops := l.toArray) (fun D a' W => (∀ (j : Nat) (o : Oper), l[j]? = some o → D j → ∀ e ∈ o.after.toList, Region.binds .any e = true → D e.on) ∧ (D n → Q .normal a' W) ∧ (¬ D n → ∃ vs : Nat → Value, S W ∧ (∀ j, j < n → D j → vAt VL j (vs j) W) ∧ Slots l.toArray a D vs a')) (fun i o ho => (hall i o (by simpa using ho)).1) ?_ ?_ l.toArray.size _ a _ (by simp) ?_ ?_)
  · rintro D a' W i o ho hnd hdep ⟨hcl, _, hrest⟩
    have hoi : l[i]? = some o := by simpa using ho
    obtain ⟨g1, g2, g3⟩ := hall i o hoi
    have hi := (List.getElem?_eq_some_iff.1 hoi).1
    have hcl' : ∀ (j : Nat) (o : Oper), l[j]? = some o → (D j ∨ j = i) → ∀ e ∈ o.after.toList, Region.binds .any e = true → D e.on ∨ e.on = i := by
      intro j oj hj hdj e hem hb
      rcases hdj with hdj | rfl
      · exact Or.inl (hcl j oj hj hdj e hem hb)
      · rw [hoi] at hj
        obtain rfl := Option.some.inj hj
        exact Or.inl (hdep e hem hb)
    have hDn : ¬ D n := fun h => by
      by_cases e : i = n
      · exact hnd (e ▸ h)
      · obtain ⟨e', hem, e1, e2⟩ := hlast i (by omega)
        exact hnd (e1 ▸ hcl n _ hol h e' hem e2)
    obtain ⟨vs, hS, hV, hD1, hD2, hD3, hD4⟩ := hrest hDn
    have hw : Region.wanted o (yielded l.toArray a'.tmps) = true := by unfold Region.wanted; rw [g2]
    unfold wpOp
    rw [ho]
    show if Region.wanted o (yielded l.toArray a'.tmps) = true then _ else _
    rw [if_pos hw]
    by_cases ein : i = n
    · subst ein
      have hDall : ∀ j, j < i → D j := fun j hj => by
        obtain ⟨e', hem, e1, e2⟩ := hlast j hj
        rw [hol] at hoi
        obtain rfl := Option.some.inj hoi
        exact e1 ▸ hdep e' hem e2
      have ea : a' = putAll vs (l.take i) 0 a := by
        have hsz := putAll_size vs (l.take i) 0 a
        have ht : a'.tmps = (putAll vs (l.take i) 0 a).tmps := by
          refine Array.ext (by rw [hD2, hsz.1]) (fun t h1 h2 => ?_)
          have e1 : a'.tmps.getD t undef = a'.tmps[t] := by rw [Array.getD_eq_getD_getElem?, Array.getElem?_eq_getElem h1]; rfl
          have e2 : (putAll vs (l.take i) 0 a).tmps.getD t undef = (putAll vs (l.take i) 0 a).tmps[t] := by rw [Array.getD_eq_getD_getElem?, Array.getElem?_eq_getElem h2]; rfl
          rw [← e1, ← e2]
          by_cases hx : ∃ o ∈ l.take i, o.dst = some t
          · obtain ⟨o2, ho2, hd⟩ := hx
            obtain ⟨j, hj⟩ := List.mem_iff_getElem?.1 ho2
            have hjl := (List.getElem?_eq_some_iff.1 hj).1
            rw [List.length_take] at hjl
            have hj' : l[j]? = some o2 := by rw [List.getElem?_take_of_lt (by omega)] at hj; exact hj
            obtain ⟨_, _, k3⟩ := hall j o2 hj'
            rw [hD3 j o2 t (by simpa using hj') hd (hDall j (by omega)), putAll_in vs t (l.take i) 0 a j o2 (k3 t hd).1 hj hd (fun m o' hm' e => (k3 t hd).2 m o' (by
              have hml := (List.getElem?_eq_some_iff.1 hm').1
              rw [List.length_take] at hml
              rw [List.getElem?_take_of_lt (by omega)] at hm'
              exact hm') e), Nat.zero_add]
          · rw [hD4 t (fun j o' hj hd hdj => ?_), putAll_out vs t (l.take i) 0 a (fun o ho e => hx ⟨o, ho, e⟩)]
            have hj' : l[j]? = some o' := by simpa using hj
            have hjl := (List.getElem?_eq_some_iff.1 hj').1
            by_cases ej : j = i
            · exact hnd (ej ▸ hdj)
            · exact hx ⟨o', List.mem_of_getElem? (i := j) (by rw [List.getElem?_take_of_lt (by omega)]; exact hj'), hd⟩
        have hdf : a'.defers = (putAll vs (l.take i) 0 a).defers := by rw [hD1, hsz.2]
        cases a' with
        | mk t1 d1 =>
          cases hq : putAll vs (l.take i) 0 a with
          | mk t2 d2 =>
            rw [hq] at ht hdf
            simp only at ht hdf
            rw [ht, hdf]
      rw [ea]
      refine Or.inl (Oper.wp_mono (fun a'' W' hk => ?_) (he vs W o hoi hS (fun j hj => hV j hj (hDall j hj))))
      exact ⟨hcl', fun _ => hk, fun h => absurd (Or.inr rfl) h⟩
    · have hil : i < n := by omega
      have hstep := hs.at i o (by rw [List.getElem?_take_of_lt hil]; exact hoi)
      rw [Nat.zero_add] at hstep
      have hst := hstep a' W hS (fun t ht => hD4 t (fun j o' hj hd hdj => by
        have hj' : l[j]? = some o' := by simpa using hj
        have h1 := List.all_eq_true.1 ht o' (List.mem_of_getElem? hj')
        rw [hd] at h1
        simp only [ne_eq, not_true_eq_false, decide_false, Bool.false_or] at h1
        obtain ⟨e, hem, he⟩ := List.any_eq_true.1 h1
        simp only [Bool.and_eq_true, decide_eq_true_eq] at he
        exact hnd (he.1 ▸ hcl j o' hj' hdj e hem he.2))) (fun k hk d hd => by
        obtain ⟨e, hem, he⟩ := List.any_eq_true.1 hk
        simp only [Bool.and_eq_true, decide_eq_true_eq] at he
        obtain ⟨rfl, hb⟩ := he
        have hlt := g1 e hem hb
        cases ho' : l[e.on]? with
        | none => rw [ho'] at hd; cases hd
        | some o' =>
          rw [ho'] at hd
          rw [hD3 e.on o' d (by simpa using ho') hd (hdep e hem hb)]
          exact hV e.on (by omega) (hdep e hem hb)) (fun a'' W' => ∃ v, a'' = a'.put o.dst v ∧ S W' ∧ (∀ p ∈ VL, ∀ u, p u W → p u W') ∧ vAt VL i v W') (fun v W' h1 h2 h3 => ⟨v, rfl, h1, h2, h3⟩)
      refine Or.inl (Oper.wp_mono (fun a'' W' hk => ?_) hst)
      obtain ⟨v, rfl, k1, k2, k3⟩ := hk
      refine ⟨hcl', fun h => absurd h (by rintro (h | h); (· exact hDn h); exact ein h.symm), fun _ => ⟨fun j => if j = i then v else vs j, k1, fun j hj hdj => ?_, by rw [put_defers]; exact hD1, by rw [put_size]; exact hD2, fun j oj d hj hd hdj => ?_, fun t ht => ?_⟩⟩
      · by_cases e : j = i
        · simp only [e, if_true]; exact k3
        · simp only [e, if_false]
          have hu := hV j hj (hdj.resolve_right e)
          unfold vAt at hu ⊢
          rw [List.getD_eq_getElem?_getD] at hu ⊢
          cases hjv : VL[j]? with
          | none => trivial
          | some p =>
            rw [hjv] at hu
            exact k2 p (List.mem_of_getElem? hjv) _ hu
      · by_cases e : j = i
        · subst e
          rw [ho] at hj
          obtain rfl := Option.some.inj hj
          simp only [if_true]
          rw [hd, put_at _ _ _ (by rw [hD2]; exact (g3 d hd).1)]
        · simp only [e, if_false]
          rw [put_ne _ _ _ _ (fun h => e ((g3 d h).2 j oj (by simpa using hj) hd))]
          exact hD3 j oj d hj hd (hdj.resolve_right e)
      · have hti : o.dst ≠ some t := fun h => ht i o ho h (Or.inr rfl)
        rw [put_ne _ _ _ _ hti]
        exact hD4 t (fun j o' hj hd h => ht j o' hj hd (Or.inl h))
  · rintro D a' W hD ⟨_, h1, _⟩
    exact h1 (hD n (by simp; omega))
  · unfold undone
    exact Nat.le_trans (List.length_filter_le _ _) (by simp)
  · have hno : ∀ j, ¬ (Array.replicate l.toArray.size false).getD j false = true := fun j h => by
      simp [Array.getD_eq_getD_getElem?, Array.getElem?_replicate] at h
      split at h <;> simp at h
    exact ⟨fun j o hj h => absurd h (hno j), fun h => absurd h (hno n), fun _ => ⟨fun _ => undef, h0, fun j _ h => absurd h (hno j), rfl, rfl, fun j o d hj hd h => absurd h (hno j), fun t _ => rfl⟩⟩
theorem wp_region_tab2 {id : Nat} {L : List Value} {df : List Deferred} {w : World} {l : List Oper} (N n : Nat) (tab : List (Option Nat)) (hN : L.length = N) (hn : l.length = n + 1) (hm : P.follows .mixedOrders = true) (hac : plainOps2 l N = true) (hla : lastOp l n = true) (htl : tab.length = N) (htab : tabOk l n tab = true) (S : World → Prop) (VL : List (Value → World → Prop)) (h0 : S w.drew)
    (hs : EachOp (OpC P Q { tmps := L.toArray, defers := df } l S VL) 0 (l.take n))
    (he : ∀ (vs : Nat → Value) (W : World) (o : Oper), l[n]? = some o → S W → (∀ j, j < n → vAt VL j (vs j) W) → o.wp P { tmps := (zipT vs tab L).toArray, defers := df } W (fun a'' W' => Q .normal a'' W') Q) : (Code.region id l.toArray true).wp P Q { tmps := L.toArray, defers := df } w := by
  refine wp_region_list2 N n (by simpa using hN) hn hm hac hla S VL h0 hs (fun vs W o ho hS hV => ?_)
  have ea : putAll vs (l.take n) 0 { tmps := L.toArray, defers := df } = { tmps := (zipT vs tab L).toArray, defers := df } := by
    have hsz := putAll_size vs (l.take n) 0 { tmps := L.toArray, defers := df }
    have ht : (putAll vs (l.take n) 0 { tmps := L.toArray, defers := df }).tmps = (zipT vs tab L).toArray := by
      refine Array.ext (by rw [hsz.1]; simp [zipT_len]) (fun t h1 h2 => ?_)
      have htL : t < L.length := by rw [hsz.1] at h1; simpa using h1
      have e1 : (putAll vs (l.take n) 0 { tmps := L.toArray, defers := df }).tmps.getD t undef = (putAll vs (l.take n) 0 { tmps := L.toArray, defers := df }).tmps[t] := by rw [Array.getD_eq_getD_getElem?, Array.getElem?_eq_getElem h1]; rfl
      have e2 : (zipT vs tab L).toArray.getD t undef = (zipT vs tab L).toArray[t] := by rw [Array.getD_eq_getD_getElem?, Array.getElem?_eq_getElem h2]; rfl
      rw [← e1, ← e2, show (zipT vs tab L).toArray.getD t undef = ((zipT vs tab L)[t]?).getD undef by simp [Array.getD_eq_getD_getElem?], zipT_at vs tab L t htL (by omega)]
      have hc := List.all_eq_true.1 htab t (List.mem_range.2 (by omega))
      rw [List.getElem?_eq_getElem (show t < tab.length by omega)] at hc ⊢
      cases hq : tab[t]'(by omega) with
      | some j =>
        rw [hq] at hc
        simp only [Bool.and_eq_true, decide_eq_true_eq] at hc
        obtain ⟨hj, hd⟩ := hc
        cases ho' : l[j]? with
        | none => rw [ho'] at hd; cases hd
        | some o' =>
          rw [ho'] at hd
          have hd' : o'.dst = some t := hd
          have hjt : (l.take n)[j]? = some o' := by rw [List.getElem?_take_of_lt hj]; exact ho'
          unfold plainOps2 at hac
          have h3 := List.all_eq_true.1 hac j (List.mem_range.2 (List.getElem?_eq_some_iff.1 ho').1)
          rw [ho'] at h3
          simp only [Option.all_some, Bool.and_eq_true] at h3
          obtain ⟨_, h4⟩ := h3
          rw [hd'] at h4
          simp only [Option.all_some, Bool.and_eq_true, decide_eq_true_eq] at h4
          rw [putAll_in vs t (l.take n) 0 _ j o' (by simpa using htL) hjt hd' (fun i o2 hi e => by
            have hil := (List.getElem?_eq_some_iff.1 hi).1
            rw [List.length_take] at hil
            rw [List.getElem?_take_of_lt (by omega)] at hi
            have h5 := List.all_eq_true.1 h4.2 i (List.mem_range.2 (List.getElem?_eq_some_iff.1 hi).1)
            rw [hi] at h5
            simp only [Option.all_some, Bool.or_eq_true, decide_eq_true_eq] at h5
            exact h5.resolve_right (fun h => h e)), Nat.zero_add]
          rfl
      | none =>
        rw [hq] at hc
        simp only at hc
        rw [putAll_out vs t (l.take n) 0 _ (fun o ho => by simpa using List.all_eq_true.1 hc o ho)]
        simp [Array.getD_eq_getD_getElem?]
    cases hq : putAll vs (l.take n) 0 { tmps := L.toArray, defers := df } with
    | mk t2 d2 =>
      rw [hq] at ht hsz
      simp only at ht hsz
      rw [ht, hsz.2]
  rw [ea]
  exact he vs W o ho hS hV
end Go.Proofs.YtaokifbpakbgdaaGreatDoor
