/-
  Several texts in one; what each one has stands at its head.
-/
import Derived.RegionTactic
import Derived.Test.YtaokifbpakbgdaaGreatDoorPut15
import Derived.Test.YtaokifbpakbgdaaGreatDoorPut13
import Derived.Test.YtaokifbpakbgdaaGreatDoorPut14
import Derived.Test.YtaokifbpakbgdaaGreatDoorPut10
import Derived.Test.YtaokifbpakbgdaaGreatDoorPut11
/- A region that draws its order, met by what each of its operations yields: whatever order they come in, behind each operation its own fact holds, and no other's is lost (no program). -/
namespace Go.Proofs.YtaokifbpakbgdaaGreatDoor
open Go

theorem filter_lt {α : Type} {p q : α → Bool} : ∀ {l : List α} {x : α}, (∀ y, q y = true → p y = true) → x ∈ l → p x = true → q x = false → (l.filter q).length < (l.filter p).length
  | [], x, _, h, _, _ => by cases h
  | y :: l, x, hq, hx, hp, hn => by
    have hle : (l.filter q).length ≤ (l.filter p).length := by
      clear hx hp hn
      induction l with
      | nil => exact Nat.le_refl _
      | cons z l ih =>
        by_cases hz : q z = true
        · rw [List.filter_cons_of_pos hz, List.filter_cons_of_pos (hq z hz), List.length_cons, List.length_cons]; omega
        · rw [List.filter_cons_of_neg hz]
          by_cases hz2 : p z = true
          · rw [List.filter_cons_of_pos hz2, List.length_cons]; omega
          · rw [List.filter_cons_of_neg hz2]; exact ih
    rcases List.mem_cons.1 hx with rfl | hx
    · rw [List.filter_cons_of_pos hp, List.filter_cons_of_neg (by simp [hn]), List.length_cons]; omega
    · have ih := filter_lt hq hx hp hn
      by_cases hz : q y = true
      · rw [List.filter_cons_of_pos hz, List.filter_cons_of_pos (hq y hz), List.length_cons, List.length_cons]; omega
      · rw [List.filter_cons_of_neg hz]
        by_cases hz2 : p y = true
        · rw [List.filter_cons_of_pos hz2, List.length_cons]; omega
        · rw [List.filter_cons_of_neg hz2]; exact ih
section
variable {P : Program} {ops : Array Oper} {Q : Exit → Act → World → Prop}
def undone (ops : Array Oper) (listed : Array Bool) : Nat := ((List.range ops.size).filter (fun i => !listed.getD i true)).length
theorem listed_set {listed : Array Bool} {i : Nat} (hi : i < listed.size) : (fun j => (listed.setIfInBounds i true).getD j false = true) = (fun j => listed.getD j false = true ∨ j = i) := by
  funext j
  apply propext
  by_cases e : j = i
  · subst e
    simp [Array.getD, hi]
  · rw [Array.getD_eq_getD_getElem?, Array.getD_eq_getD_getElem?, Array.getElem?_setIfInBounds_ne (by omega)]
    simp [e]
theorem wpAny_inv (I : (Nat → Prop) → Act → World → Prop) (hac : ∀ (i : Nat) (o : Oper), ops[i]? = some o → ∀ e ∈ o.after.toList, e.on < i)
    (hs : ∀ (D : Nat → Prop) (a : Act) (w : World) (i : Nat) (o : Oper), ops[i]? = some o → ¬ D i → (∀ e ∈ o.after.toList, Region.binds .any e = true → D e.on) → I D a w → wpOp P ops Q i (I (fun j => D j ∨ j = i)) a w)
    (he : ∀ (D : Nat → Prop) (a : Act) (w : World), (∀ j, j < ops.size → D j) → I D a w → Q .normal a w) :
    ∀ (fuel : Nat) (listed : Array Bool) (a : Act) (w : World), listed.size = ops.size → undone ops listed ≤ fuel → I (fun j => listed.getD j false = true) a w → wpAny P .any ops Q fuel listed a w := by
  have hend : ∀ (listed : Array Bool), listed.size = ops.size → Region.ready .any ops listed = [] → ∀ j, j < ops.size → listed.getD j false = true := by
    intro listed hsz hr j
    induction j using Nat.strongRecOn with
    | _ j ih =>
      intro hj
      cases hc : listed.getD j false with
      | true => rfl
      | false =>
        exfalso
        have hm : j ∈ Region.ready .any ops listed := by
          unfold Region.ready
          rw [List.mem_filter]
          refine ⟨List.mem_range.2 hj, ?_⟩
          have h1 : listed.getD j true = false := by
            rw [Array.getD_eq_getD_getElem?] at hc ⊢
            rw [Array.getElem?_eq_getElem (by omega)] at hc ⊢
            exact hc
          rw [h1, Array.getElem?_eq_getElem hj]
          simp only [Bool.not_false, Bool.true_and, Option.map_some, Option.getD_some]
          rw [Array.all_eq_true']
          intro e hem
          have hlt := hac j _ (Array.getElem?_eq_getElem hj) e (Array.mem_toList_iff.2 hem)
          rw [ih e.on hlt (by omega)]
          simp
        rw [hr] at hm
        cases hm
  intro fuel
  induction fuel with
  | zero =>
    intro listed a w hsz hu hI
    have hz : Region.ready .any ops listed = [] := by
      have h0 : (List.range ops.size).filter (fun i => !listed.getD i true) = [] := List.eq_nil_of_length_eq_zero (by unfold undone at hu; omega)
      apply List.eq_nil_iff_forall_not_mem.2
      intro i hi
      unfold Region.ready at hi
      rw [List.mem_filter, Bool.and_eq_true] at hi
      have : i ∈ (List.range ops.size).filter (fun i => !listed.getD i true) := List.mem_filter.2 ⟨hi.1, hi.2.1⟩
      rw [h0] at this
      cases this
    exact ⟨hz, he _ a w (fun j hj => hend listed hsz hz j hj) hI⟩
  | succ fuel ih =>
    intro listed a w hsz hu hI
    refine ⟨fun hz => he _ a w (fun j hj => hend listed hsz hz j hj) hI, fun i hi => ?_⟩
    unfold Region.ready at hi
    rw [List.mem_filter, Bool.and_eq_true] at hi
    obtain ⟨hir, h1, h2⟩ := hi
    have hil := List.mem_range.1 hir
    rw [Array.getElem?_eq_getElem hil] at h2
    simp only [Option.map_some, Option.getD_some] at h2
    rw [Array.all_eq_true'] at h2
    have hnd : ¬ listed.getD i false = true := by
      rw [Array.getD_eq_getD_getElem?, Array.getElem?_eq_getElem (by omega)] at h1 ⊢
      simp only [Option.getD_some] at h1 ⊢
      intro h
      rw [h] at h1
      cases h1
    refine wpOp_mono (fun a' w' hk => ?_) (hs _ a w i _ (Array.getElem?_eq_getElem hil) hnd (fun e hem hb => ?_) hI)
    · refine ih _ a' w' (by simpa using hsz) ?_ ?_
      · have : undone ops (listed.setIfInBounds i true) < undone ops listed := by
          unfold undone
          refine filter_lt (x := i) (fun y hy => ?_) hir h1 ?_
          · by_cases e : y = i
            · subst e; exact h1
            · rw [Array.getD_eq_getD_getElem?, Array.getElem?_setIfInBounds_ne (by omega)] at hy
              rw [Array.getD_eq_getD_getElem?]
              exact hy
          · rw [Array.getD_eq_getD_getElem?, Array.getElem?_setIfInBounds_self_of_lt (by omega)]
            rfl
        omega
      · rw [listed_set (by omega)]
        exact hk
    · have := h2 e (Array.mem_toList_iff.1 hem)
      rw [hb] at this
      simpa using this
/-- What was put where, all operations done. -/
def putAll (vs : Nat → Value) : List Oper → Nat → Act → Act
  | [], _, a => a
  | o :: r, k, a => putAll vs r (k + 1) (a.put o.dst (vs k))
/-- The slots of an act, as far as the operations of a set have been done. -/
def Slots (ops : Array Oper) (a : Act) (D : Nat → Prop) (vs : Nat → Value) (a' : Act) : Prop :=
  a'.defers = a.defers ∧ a'.tmps.size = a.tmps.size ∧ (∀ (j : Nat) (o : Oper) (d : Tmp), ops[j]? = some o → o.dst = some d → D j → a'.tmps.getD d undef = vs j) ∧ (∀ t : Tmp, (∀ (j : Nat) (o : Oper), ops[j]? = some o → o.dst = some t → ¬ D j) → a'.tmps.getD t undef = a.tmps.getD t undef)
theorem put_size (a : Act) (d : Option Tmp) (v : Value) : (a.put d v).tmps.size = a.tmps.size := by
  cases d with
  | none => rfl
  | some d => simp [Act.put]
theorem put_defers (a : Act) (d : Option Tmp) (v : Value) : (a.put d v).defers = a.defers := by
  cases d <;> rfl
theorem put_at (a : Act) (d : Tmp) (v : Value) (h : d < a.tmps.size) : (a.put (some d) v).tmps.getD d undef = v := by
  show (a.tmps.setIfInBounds d v).getD d undef = v
  rw [Array.getD_eq_getD_getElem?, Array.getElem?_setIfInBounds_self_of_lt h]
  rfl
theorem put_ne (a : Act) (d : Option Tmp) (v : Value) (t : Tmp) (h : d ≠ some t) : (a.put d v).tmps.getD t undef = a.tmps.getD t undef := by
  cases d with
  | none => rfl
  | some d =>
    show (a.tmps.setIfInBounds d v).getD t undef = _
    rw [Array.getD_eq_getD_getElem?, Array.getElem?_setIfInBounds_ne (fun e => h (by rw [e])), ← Array.getD_eq_getD_getElem?]
theorem putAll_size (vs : Nat → Value) : ∀ (r : List Oper) (k : Nat) (a : Act), (putAll vs r k a).tmps.size = a.tmps.size ∧ (putAll vs r k a).defers = a.defers
  | [], _, _ => ⟨rfl, rfl⟩
  | o :: r, k, a => by
    have := putAll_size vs r (k + 1) (a.put o.dst (vs k))
    rw [put_size, put_defers] at this
    exact this
theorem putAll_out (vs : Nat → Value) (t : Tmp) : ∀ (r : List Oper) (k : Nat) (a : Act), (∀ o ∈ r, o.dst ≠ some t) → (putAll vs r k a).tmps.getD t undef = a.tmps.getD t undef
  | [], _, _, _ => rfl
  | o :: r, k, a, h => by
    rw [putAll, putAll_out vs t r (k + 1) _ (fun o ho => h o (List.mem_cons_of_mem _ ho)), put_ne _ _ _ _ (h o List.mem_cons_self)]
theorem putAll_in (vs : Nat → Value) (t : Tmp) : ∀ (r : List Oper) (k : Nat) (a : Act) (j : Nat) (o : Oper), t < a.tmps.size → r[j]? = some o → o.dst = some t → (∀ i o', r[i]? = some o' → o'.dst = some t → i = j) → (putAll vs r k a).tmps.getD t undef = vs (k + j)
  | [], _, _, j, o, _, h, _, _ => by simp at h
  | p :: r, k, a, 0, o, ht, h, hd, hu => by
    simp only [List.getElem?_cons_zero, Option.some.injEq] at h
    subst h
    rw [putAll, putAll_out vs t r (k + 1) _ (fun o' ho e => ?_), hd, put_at _ _ _ ht]
    · rfl
    · obtain ⟨i, hi⟩ := List.mem_iff_getElem?.1 ho
      have := hu (i + 1) o' (by simpa using hi) e
      omega
  | p :: r, k, a, j + 1, o, ht, h, hd, hu => by
    simp only [List.getElem?_cons_succ] at h
    rw [putAll, putAll_in vs t r (k + 1) _ j o (by rw [put_size]; exact ht) h hd (fun i o' hi e => by have := hu (i + 1) o' (by simpa using hi) e; omega)]
    congr 1
    omega
/-- Operations that come behind what they lean on, none guarded, each with a slot of its own. -/
def plainOps (l : List Oper) (N : Nat) : Bool := (List.range l.length).all (fun i => (l[i]?).all (fun o => o.after.toList.all (fun e => decide (e.on < i)) && o.guard.isNone && (o.dst.all (fun d => decide (d < N) && (List.range l.length).all (fun j => decide (j = i) || ((l[j]?).all (fun o' => decide (o'.dst ≠ some d))))))))
/-- The last operation comes behind all others. -/
def lastOp (l : List Oper) (n : Nat) : Bool := (l[n]?).all (fun o => (List.range n).all (fun j => o.after.toList.any (fun e => decide (e.on = j) && Region.binds .any e)))
/-- Of each operation. -/
def EachOp (f : Nat → Oper → Prop) : Nat → List Oper → Prop
  | _, [] => True
  | k, o :: r => f k o ∧ EachOp f (k + 1) r
theorem EachOp.at {f : Nat → Oper → Prop} : ∀ {l : List Oper} {k : Nat}, EachOp f k l → ∀ (i : Nat) (o : Oper), l[i]? = some o → f (k + i) o
  | [], _, _, i, o, h => by simp at h
  | p :: l, k, h, 0, o, ho => by
    simp only [List.getElem?_cons_zero, Option.some.injEq] at ho
    subst ho
    exact h.1
  | p :: l, k, h, i + 1, o, ho => by
    have := EachOp.at h.2 i o (by simpa using ho)
    rwa [show k + (i + 1) = k + 1 + i by omega]
abbrev vAt (VL : List (Value → World → Prop)) (k : Nat) : Value → World → Prop := VL.getD k (fun _ _ => True)
/-- What an operation may lean on, and what it must leave. -/
def OpC (P : Program) (Q : Exit → Act → World → Prop) (a : Act) (l : List Oper) (S : World → Prop) (VL : List (Value → World → Prop)) (i : Nat) (o : Oper) : Prop :=
  ∀ (a' : Act) (W : World), S W → (∀ t : Tmp, l.all (fun o' => decide (o'.dst ≠ some t) || o'.after.toList.any (fun e => decide (e.on = i) && Region.binds .any e)) = true → a'.tmps.getD t undef = a.tmps.getD t undef) →
    (∀ k : Nat, o.after.toList.any (fun e => decide (e.on = k) && Region.binds .any e) = true → ∀ d : Tmp, (l[k]?).bind (·.dst) = some d → vAt VL k (a'.tmps.getD d undef) W) →
    ∀ K : Act → World → Prop, (∀ (v : Value) (W' : World), S W' → (∀ p ∈ VL, ∀ u, p u W → p u W') → vAt VL i v W' → K (a'.put o.dst v) W') → o.wp P a' W K Q
/-- A REGION THAT DRAWS ITS ORDER, BY WHAT EACH OPERATION YIELDS: the last operation comes behind all others. -/
theorem wp_region_list {id : Nat} {a : Act} {w : World} {l : List Oper} (N n : Nat) (hN : a.tmps.size = N) (hn : l.length = n + 1) (hm : P.follows .mixedOrders = true) (hac : plainOps l N = true) (hla : lastOp l n = true) (S : World → Prop) (VL : List (Value → World → Prop)) (h0 : S w.drew)
    (hs : EachOp (OpC P Q a l S VL) 0 (l.take n))
    (he : ∀ (vs : Nat → Value) (W : World) (o : Oper), l[n]? = some o → S W → (∀ j, j < n → vAt VL j (vs j) W) → o.wp P (putAll vs (l.take n) 0 a) W (fun a'' W' => Q .normal a'' W') Q) : (Code.region id l.toArray true).wp P Q a w := by
  subst hN
  have hall : ∀ (i : Nat) (o : Oper), l[i]? = some o → (∀ e ∈ o.after.toList, e.on < i) ∧ o.guard = none ∧ ∀ d : Tmp, o.dst = some d → d < a.tmps.size ∧ ∀ (j : Nat) (o' : Oper), l[j]? = some o' → o'.dst = some d → j = i := by
    intro i o ho
    have hi := (List.getElem?_eq_some_iff.1 ho).1
    unfold plainOps at hac
    have h1 := List.all_eq_true.1 hac i (List.mem_range.2 hi)
    rw [ho] at h1
    simp only [Option.all_some, Bool.and_eq_true] at h1
    obtain ⟨⟨h2, h3⟩, h4⟩ := h1
    refine ⟨fun e hem => by simpa using List.all_eq_true.1 h2 e hem, by simpa using h3, fun d hd => ?_⟩
    rw [hd] at h4
    simp only [Option.all_some, Bool.and_eq_true, decide_eq_true_eq] at h4
    refine ⟨h4.1, fun j o' hj hd' => ?_⟩
    have h5 := List.all_eq_true.1 h4.2 j (List.mem_range.2 (List.getElem?_eq_some_iff.1 hj).1)
    rw [hj] at h5
    simp only [Option.all_some, Bool.or_eq_true, decide_eq_true_eq] at h5
    rcases h5 with h5 | h5
    · exact h5
    · exact absurd hd' h5
  have hol : l[n]? = some (l[n]'(by omega)) := List.getElem?_eq_getElem (by omega)
  have hlast : ∀ j, j < n → ∃ e ∈ (l[n]'(by omega)).after.toList, e.on = j ∧ Region.binds .any e = true := by
    intro j hj
    unfold lastOp at hla
    rw [hol] at hla
    simp only [Option.all_some] at hla
    obtain ⟨e, hem, he⟩ := List.any_eq_true.1 (List.all_eq_true.1 hla j (List.mem_range.2 hj))
    simp only [Bool.and_eq_true, decide_eq_true_eq] at he
    exact ⟨e, hem, he.1, he.2⟩
  refine wp_region_any hm (wpAny_inv (ops := l.toArray) (fun D a' W => (∀ (j : Nat) (o : Oper), l[j]? = some o → D j → ∀ e ∈ o.after.toList, Region.binds .any e = true → D e.on) ∧ (D n → Q .normal a' W) ∧ (¬ D n → ∃ vs : Nat → Value, S W ∧ (∀ j, j < n → D j → vAt VL j (vs j) W) ∧ Slots l.toArray a D vs a')) (fun i o ho => (hall i o (by simpa using ho)).1) ?_ ?_ l.toArray.size _ a _ (by simp) ?_ ?_)
  · rintro D a' W i o ho hnd hdep ⟨hcl, _, hrest⟩
    have hoi : l[i]? = some o := by simpa using ho
    obtain ⟨g1, g2, g3⟩ := hall i o hoi
    have hi := (List.getElem?_eq_some_iff.1 hoi).1
    have hcl' : ∀ (j : Nat) (o : Oper), l[j]? = some o → (D j ∨ j = i) → ∀ e ∈ o.after.toList, Region.binds .any e = true → D e.on ∨ e.on = i := by
      intro j oj hj hdj e hem hb
      rcases hdj with hdj | rfl
      · exact Or.inl (hcl j oj hj hdj e hem hb)
      · rw [hoi] at hj
        obtain rfl := Option.some.inj hj
        exact Or.inl (hdep e hem hb)
    have hDn : ¬ D n := fun h => by
      by_cases e : i = n
      · exact hnd (e ▸ h)
      · obtain ⟨e', hem, e1, e2⟩ := hlast i (by omega)
        exact hnd (e1 ▸ hcl n _ hol h e' hem e2)
    obtain ⟨vs, hS, hV, hD1, hD2, hD3, hD4⟩ := hrest hDn
    have hw : Region.wanted o (yielded l.toArray a'.tmps) = true := by unfold Region.wanted; rw [g2]
    unfold wpOp
    rw [ho]
    show if Region.wanted o (yielded l.toArray a'.tmps) = true then _ else _
    rw [if_pos hw]
    by_cases ein : i = n
    · subst ein
      have hDall : ∀ j, j < i → D j := fun j hj => by
        obtain ⟨e', hem, e1, e2⟩ := hlast j hj
        rw [hol] at hoi
        obtain rfl := Option.some.inj hoi
        exact e1 ▸ hdep e' hem e2
      have ea : a' = putAll vs (l.take i) 0 a := by
        have hsz := putAll_size vs (l.take i) 0 a
        have ht : a'.tmps = (putAll vs (l.take i) 0 a).tmps := by
          refine Array.ext (by rw [hD2, hsz.1]) (fun t h1 h2 => ?_)
          have e1 : a'.tmps.getD t undef = a'.tmps[t] := by rw [Array.getD_eq_getD_getElem?, Array.getElem?_eq_getElem h1]; rfl
          have e2 : (putAll vs (l.take i) 0 a).tmps.getD t undef = (putAll vs (l.take i) 0 a).tmps[t] := by rw [Array.getD_eq_getD_getElem?, Array.getElem?_eq_getElem h2]; rfl
          rw [← e1, ← e2]
          by_cases hx : ∃ o ∈ l.take i, o.dst = some t
          · obtain ⟨o2, ho2, hd⟩ := hx
            obtain ⟨j, hj⟩ := List.mem_iff_getElem?.1 ho2
            have hjl := (List.getElem?_eq_some_iff.1 hj).1
            rw [List.length_take] at hjl
            have hj' : l[j]? = some o2 := by rw [List.getElem?_take_of_lt (by omega)] at hj; exact hj
            obtain ⟨_, _, k3⟩ := hall j o2 hj'
            rw [hD3 j o2 t (by simpa using hj') hd (hDall j (by omega)), putAll_in vs t (l.take i) 0 a j o2 (k3 t hd).1 hj hd (fun m o' hm' e => (k3 t hd).2 m o' (by
              have hml := (List.getElem?_eq_some_iff.1 hm').1
              rw [List.length_take] at hml
              rw [List.getElem?_take_of_lt (by omega)] at hm'
              exact hm') e), Nat.zero_add]
          · rw [hD4 t (fun j o' hj hd hdj => ?_), putAll_out vs t (l.take i) 0 a (fun o ho e => hx ⟨o, ho, e⟩)]
            have hj' : l[j]? = some o' := by simpa using hj
            have hjl := (List.getElem?_eq_some_iff.1 hj').1
            by_cases ej : j = i
            · exact hnd (ej ▸ hdj)
            · exact hx ⟨o', List.mem_of_getElem? (i := j) (by rw [List.getElem?_take_of_lt (by omega)]; exact hj'), hd⟩
        have hdf : a'.defers = (putAll vs (l.take i) 0 a).defers := by rw [hD1, hsz.2]
        cases a' with
        | mk t1 d1 =>
          cases hq : putAll vs (l.take i) 0 a with
          | mk t2 d2 =>
            rw [hq] at ht hdf
            simp only at ht hdf
            rw [ht, hdf]
      rw [ea]
      refine Or.inl (Oper.wp_mono (fun a'' W' hk => ?_) (he vs W o hoi hS (fun j hj => hV j hj (hDall j hj))))
      exact ⟨hcl', fun _ => hk, fun h => absurd (Or.inr rfl) h⟩
    · have hil : i < n := by omega
      have hstep := hs.at i o (by rw [List.getElem?_take_of_lt hil]; exact hoi)
      rw [Nat.zero_add] at hstep
      have hst := hstep a' W hS (fun t ht => hD4 t (fun j o' hj hd hdj => by
        have hj' : l[j]? = some o' := by simpa using hj
        have h1 := List.all_eq_true.1 ht o' (List.mem_of_getElem? hj')
        rw [hd] at h1
        simp only [ne_eq, not_true_eq_false, decide_false, Bool.false_or] at h1
        obtain ⟨e, hem, he⟩ := List.any_eq_true.1 h1
        simp only [Bool.and_eq_true, decide_eq_true_eq] at he
        exact hnd (he.1 ▸ hcl j o' hj' hdj e hem he.2))) (fun k hk d hd => by
        obtain ⟨e, hem, he⟩ := List.any_eq_true.1 hk
        simp only [Bool.and_eq_true, decide_eq_true_eq] at he
        obtain ⟨rfl, hb⟩ := he
        have hlt := g1 e hem
        cases ho' : l[e.on]? with
        | none => rw [ho'] at hd; cases hd
        | some o' =>
          rw [ho'] at hd
          rw [hD3 e.on o' d (by simpa using ho') hd (hdep e hem hb)]
          exact hV e.on (by omega) (hdep e hem hb)) (fun a'' W' => ∃ v, a'' = a'.put o.dst v ∧ S W' ∧ (∀ p ∈ VL, ∀ u, p u W → p u W') ∧ vAt VL i v W') (fun v W' h1 h2 h3 => ⟨v, rfl, h1, h2, h3⟩)
      refine Or.inl (Oper.wp_mono (fun a'' W' hk => ?_) hst)
      obtain ⟨v, rfl, k1, k2, k3⟩ := hk
      refine ⟨hcl', fun h => absurd h (by rintro (h | h); (· exact hDn h); exact ein h.symm), fun _ => ⟨fun j => if j = i then v else vs j, k1, fun j hj hdj => ?_, by rw [put_defers]; exact hD1, by rw [put_size]; exact hD2, fun j oj d hj hd hdj => ?_, fun t ht => ?_⟩⟩
      · by_cases e : j = i
        · simp only [e, if_true]; exact k3
        · simp only [e, if_false]
          have hu := hV j hj (hdj.resolve_right e)
          unfold vAt at hu ⊢
          rw [List.getD_eq_getElem?_getD] at hu ⊢
          cases hjv : VL[j]? with
          | none => trivial
          | some p =>
            rw [hjv] at hu
            exact k2 p (List.mem_of_getElem? hjv) _ hu
      · by_cases e : j = i
        · subst e
          rw [ho] at hj
          obtain rfl := Option.some.inj hj
          simp only [if_true]
          rw [hd, put_at _ _ _ (by rw [hD2]; exact (g3 d hd).1)]
        · simp only [e, if_false]
          rw [put_ne _ _ _ _ (fun h => e ((g3 d h).2 j oj (by simpa using hj) hd))]
          exact hD3 j oj d hj hd (hdj.resolve_right e)
      · have hti : o.dst ≠ some t := fun h => ht i o ho h (Or.inr rfl)
        rw [put_ne _ _ _ _ hti]
        exact hD4 t (fun j o' hj hd h => ht j o' hj hd (Or.inl h))
  · rintro D a' W hD ⟨_, h1, _⟩
    exact h1 (hD n (by simp; omega))
  · unfold undone
    exact Nat.le_trans (List.length_filter_le _ _) (by simp)
  · have hno : ∀ j, ¬ (Array.replicate l.toArray.size false).getD j false = true := fun j h => by
      simp [Array.getD_eq_getD_getElem?, Array.getElem?_replicate] at h
      split at h <;> simp at h
    exact ⟨fun j o hj h => absurd h (hno j), fun h => absurd h (hno n), fun _ => ⟨fun _ => undef, h0, fun j _ h => absurd h (hno j), rfl, rfl, fun j o d hj hd h => absurd h (hno j), fun t _ => rfl⟩⟩
/-- The slots with what was put into them, by a table of who puts what. -/
def zipT (vs : Nat → Value) : List (Option Nat) → List Value → List Value
  | none :: r, x :: l => x :: zipT vs r l
  | some j :: r, _ :: l => vs j :: zipT vs r l
  | _, l => l
def tabOk (l : List Oper) (n : Nat) (tab : List (Option Nat)) : Bool := (List.range tab.length).all (fun t => match tab[t]? with
  | some (some j) => decide (j < n) && decide ((l[j]?).bind (·.dst) = some t)
  | _ => (l.take n).all (fun o => decide (o.dst ≠ some t)))
theorem zipT_len (vs : Nat → Value) : ∀ (tab : List (Option Nat)) (L : List Value), (zipT vs tab L).length = L.length
  | [], L => by cases L <;> rfl
  | none :: r, [] => rfl
  | some j :: r, [] => rfl
  | none :: r, x :: l => by rw [zipT, List.length_cons, zipT_len vs r l, List.length_cons]
  | some j :: r, x :: l => by rw [zipT, List.length_cons, zipT_len vs r l, List.length_cons]
theorem zipT_at (vs : Nat → Value) : ∀ (tab : List (Option Nat)) (L : List Value) (t : Nat), t < L.length → t < tab.length → (zipT vs tab L)[t]? = match tab[t]? with
    | some (some j) => some (vs j)
    | _ => L[t]?
  | [], _, _, _, h => by simp at h
  | none :: r, [], _, h, _ => by simp at h
  | some j :: r, [], _, h, _ => by simp at h
  | none :: r, x :: l, 0, _, _ => rfl
  | some j :: r, x :: l, 0, _, _ => rfl
  | none :: r, x :: l, t + 1, h1, h2 => by
    rw [zipT]
    simpa using zipT_at vs r l t (by simpa using h1) (by simpa using h2)
  | some j :: r, x :: l, t + 1, h1, h2 => by
    rw [zipT]
    simpa using zipT_at vs r l t (by simpa using h1) (by simpa using h2)
theorem wp_region_tab {id : Nat} {L : List Value} {df : List Deferred} {w : World} {l : List Oper} (N n : Nat) (tab : List (Option Nat)) (hN : L.length = N) (hn : l.length = n + 1) (hm : P.follows .mixedOrders = true) (hac : plainOps l N = true) (hla : lastOp l n = true) (htl : tab.length = N) (htab : tabOk l n tab = true) (S : World → Prop) (VL : List (Value → World → Prop)) (h0 : S w.drew)
    (hs : EachOp (OpC P Q { tmps := L.toArray, defers := df } l S VL) 0 (l.take n))
    (he : ∀ (vs : Nat → Value) (W : World) (o : Oper), l[n]? = some o → S W → (∀ j, j < n → vAt VL j (vs j) W) → o.wp P { tmps := (zipT vs tab L).toArray, defers := df } W (fun a'' W' => Q .normal a'' W') Q) : (Code.region id l.toArray true).wp P Q { tmps := L.toArray, defers := df } w := by
  refine wp_region_list N n (by simpa using hN) hn hm hac hla S VL h0 hs (fun vs W o ho hS hV => ?_)
  have ea : putAll vs (l.take n) 0 { tmps := L.toArray, defers := df } = { tmps := (zipT vs tab L).toArray, defers := df } := by
    have hsz := putAll_size vs (l.take n) 0 { tmps := L.toArray, defers := df }
    have ht : (putAll vs (l.take n) 0 { tmps := L.toArray, defers := df }).tmps = (zipT vs tab L).toArray := by
      refine Array.ext (by rw [hsz.1]; simp [zipT_len]) (fun t h1 h2 => ?_)
      have htL : t < L.length := by rw [hsz.1] at h1; simpa using h1
      have e1 : (putAll vs (l.take n) 0 { tmps := L.toArray, defers := df }).tmps.getD t undef = (putAll vs (l.take n) 0 { tmps := L.toArray, defers := df }).tmps[t] := by rw [Array.getD_eq_getD_getElem?, Array.getElem?_eq_getElem h1]; rfl
      have e2 : (zipT vs tab L).toArray.getD t undef = (zipT vs tab L).toArray[t] := by rw [Array.getD_eq_getD_getElem?, Array.getElem?_eq_getElem h2]; rfl
      rw [← e1, ← e2, show (zipT vs tab L).toArray.getD t undef = ((zipT vs tab L)[t]?).getD undef by simp [Array.getD_eq_getD_getElem?], zipT_at vs tab L t htL (by omega)]
      have hc := List.all_eq_true.1 htab t (List.mem_range.2 (by omega))
      rw [List.getElem?_eq_getElem (show t < tab.length by omega)] at hc ⊢
      cases hq : tab[t]'(by omega) with
      | some j =>
        rw [hq] at hc
        simp only [Bool.and_eq_true, decide_eq_true_eq] at hc
        obtain ⟨hj, hd⟩ := hc
        cases ho' : l[j]? with
        | none => rw [ho'] at hd; cases hd
        | some o' =>
          rw [ho'] at hd
          have hd' : o'.dst = some t := hd
          have hjt : (l.take n)[j]? = some o' := by rw [List.getElem?_take_of_lt hj]; exact ho'
          unfold plainOps at hac
          have h3 := List.all_eq_true.1 hac j (List.mem_range.2 (List.getElem?_eq_some_iff.1 ho').1)
          rw [ho'] at h3
          simp only [Option.all_some, Bool.and_eq_true] at h3
          obtain ⟨_, h4⟩ := h3
          rw [hd'] at h4
          simp only [Option.all_some, Bool.and_eq_true, decide_eq_true_eq] at h4
          rw [putAll_in vs t (l.take n) 0 _ j o' (by simpa using htL) hjt hd' (fun i o2 hi e => by
            have hil := (List.getElem?_eq_some_iff.1 hi).1
            rw [List.length_take] at hil
            rw [List.getElem?_take_of_lt (by omega)] at hi
            have h5 := List.all_eq_true.1 h4.2 i (List.mem_range.2 (List.getElem?_eq_some_iff.1 hi).1)
            rw [hi] at h5
            simp only [Option.all_some, Bool.or_eq_true, decide_eq_true_eq] at h5
            exact h5.resolve_right (fun h => h e)), Nat.zero_add]
          rfl
      | none =>
        rw [hq] at hc
        simp only at hc
        rw [putAll_out vs t (l.take n) 0 _ (fun o ho => by simpa using List.all_eq_true.1 hc o ho)]
        simp [Array.getD_eq_getD_getElem?]
    cases hq : putAll vs (l.take n) 0 { tmps := L.toArray, defers := df } with
    | mk t2 d2 =>
      rw [hq] at ht hsz
      simp only at ht hsz
      rw [ht, hsz.2]
  rw [ea]
  exact he vs W o ho hS hV
end
end Go.Proofs.YtaokifbpakbgdaaGreatDoor

/- Package foliokeep: raw, letters and digits, each told to the end. -/
namespace Go.Proofs.YtaokifbpakbgdaaGreatDoor
open Go.RowKit

/-- The number of a place; 0: there is none. -/
def rawI (n : Nat) (Z : Nat → Int) (i : Nat) : Int := if i < n then Z i else 0
/-- Numbers that came in: what raw gives of them, in whatever world that has only grown. -/
def Raws (w : World) (a : Option Addr) (n c : Nat) (Z : Nat → Int) : Prop := ∀ (i : Nat) (W : World), Up w W → (Calls Tryz.prog 25 #[.slice a n c, .int .i64 i] W fun e w' => e = .returned (.int .i64 (rawI n Z i)) ∧ w' = W) ∧ -9223372036854775808 ≤ rawI n Z i ∧ rawI n Z i ≤ 9223372036854775807
theorem raw_det (a : Option Addr) (b off len cap : Nat) (Z : Nat → Int) (w : World) (ha : Hid (0 < len → a = some ⟨b, off, none⟩)) (hlen : len ≤ 9223372036854775807) (hc : Hid (Ints w b off len Z)) : Raws w a len cap Z := by
  intro i W hW
  by_cases hlt : i < len
  · obtain rfl := ha.out (by omega)
    have hci := (hc.out.up hW) i hlt
    have hcell := hci.1
    have hR := hid (show rawI len Z i = Z i from if_pos hlt)
    refine ⟨?_, by rw [hR.out]; exact hci.2⟩
    go_enter Tryz.func25, Tryz.ntmps25
    go_wp2
    go_ret
    exact ⟨by rw [hR.out]; rfl, rfl⟩
  · have hR := hid (show rawI len Z i = 0 from if_neg hlt)
    refine ⟨?_, by rw [hR.out]; decide, by rw [hR.out]; decide⟩
    go_enter Tryz.func25, Tryz.ntmps25
    go_wp2
    go_ret
    exact ⟨by rw [hR.out]; rfl, rfl⟩
theorem dig_det (n : Nat) (k : Nat) (w : World) (hn : n < 10000) (hk : k ≤ 4) :
    Calls Tryz.prog 38 #[.int .i64 n, .int .i64 k] w fun e w' => e = .returned (.string (bs (dgs k n))) ∧ Below w.heap.size w w' := by
  refine (kdigits_any n k w hn hk).mono ?_
  rintro e w' ⟨⟨s, rfl, hs⟩, hup⟩
  refine ⟨?_, hup⟩
  rw [← hs.out, bs_of]
/-- Letters of few numbers. -/
theorem let_few (b len cap : Nat) (Z : Nat → Int) (w : World) (hlen : len ≤ 4) (hc : Hid (Ints w b 0 len Z)) :
    Calls Tryz.prog 23 #[.slice (some ⟨b, 0, none⟩) len cap] w fun e w' => (∃ v : ByteArray, e = .returned (.string v) ∧ Hid (Lettered v.data.toList ∧ v.data.toList.length ≤ 5)) ∧ Below w.heap.size w w' := by
  go_enter Tryz.func23, Tryz.ntmps23
  go_wp2
  go_loopw [3, 4] (fun x y wr => ∃ (s : ByteArray) (i : Nat), x = .string s ∧ y = .int .i64 i ∧ i ≤ len ∧ s.size = i ∧ Hid (∀ c ∈ s.data.toList, c ∈ alphabet) ∧ Up w wr) (fun _ y _ => len - (intOf y).toNat)
  case atStart => exact ⟨⟨#[]⟩, 0, rfl, rfl, by omega, by decide, fun c hc => by simp at hc, Up.refl _⟩
  case round =>
    obtain ⟨s, i, rfl, rfl, hi, hs, hm, hup⟩ := hrel
    by_cases hlt : i < len
    · have h40 : s.size < 40 := by omega
      have hci := (hc.out.up hup) i hlt
      rw [Nat.zero_add] at hci
      have hcell := hci.1
      have hr := vpk_bd (Z i) 10 (by omega)
      go_wp2_with fail
      go_at_call 24; refine (vpick_any _ _ _ hci.2.1 hci.2.2 (by omega) (by omega)).mono ?_; rintro e w1 ⟨rfl, rfl⟩
      generalize vpk (Z i) 10 = r at hr
      have hb : r.toNat < (⟨#[97, 98, 99, 65, 66, 67, 32, 120, 94, 49]⟩ : ByteArray).size := by show r.toNat < 10; omega
      have hu := UInt8.toNat_lt ((⟨#[97, 98, 99, 65, 66, 67, 32, 120, 94, 49]⟩ : ByteArray)[r.toNat]'hb)
      have cv := conv_one w1 ((((⟨#[97, 98, 99, 65, 66, 67, 32, 120, 94, 49]⟩ : ByteArray)[r.toNat]'hb).toNat : Nat) : Int) (by omega) (by omega)
      have ho := one_size ((((⟨#[97, 98, 99, 65, 66, 67, 32, 120, 94, 49]⟩ : ByteArray)[r.toNat]'hb).toNat : Nat) : Int)
      go_wp2
      go_roundw
      case rel => exact ⟨s ++ oneB ((((⟨#[97, 98, 99, 65, 66, 67, 32, 120, 94, 49]⟩ : ByteArray)[r.toNat]'hb).toNat : Nat) : Int), i + 1, rfl, by go_num, by omega, by rw [ByteArray.size_append, one_size]; omega, alpha_snoc s _ hm (by rw [ofNat_byte]; exact Array.mem_toList_iff.2 (Array.getElem_mem hb)), Up.alloc hup _⟩
      case measure => simp [intOf]; omega
    · have hl := hid (show (s ++ ⟨#[122]⟩ : ByteArray).data.toList.length ≤ 5 by rw [len_list, ByteArray.size_append]; show s.size + 1 ≤ 5; omega)
      have hle := lettered_mk s (by omega) hm
      go_wp2
      go_ret
      exact ⟨⟨_, rfl, hle.out, hl.out⟩, hup⟩
end Go.Proofs.YtaokifbpakbgdaaGreatDoor

/- Pictures in memory. -/
namespace Go.Proofs.YtaokifbpakbgdaaGreatDoor
open Go.RowKit
/-- A picture's cells. -/
def PicAt (w : World) (b o : Nat) : Prop := ∃ (a1 a2 : Option Addr) (n1 c1 n2 c2 : Nat) (Z1 Z2 : Nat → Int) (g : Bool), w.cell? ⟨b, o, none⟩ = some (.slice a1 n1 c1) ∧ w.cell? ⟨b, o + 1, none⟩ = some (.slice a2 n2 c2) ∧ w.cell? ⟨b, o + 2, none⟩ = some (.bool g) ∧ Raws w a1 n1 c1 Z1 ∧ Raws w a2 n2 c2 Z2
/-- A row of pictures. -/
def Pix (w : World) (a : Option Addr) (n : Nat) : Prop := n ≤ 9223372036854775807 ∧ ∃ b o, (0 < n → a = some ⟨b, o, none⟩) ∧ ∀ i, i < n → PicAt w b (o + i * 3)
theorem Raws.up {w w' : World} {a : Option Addr} {n c : Nat} {Z : Nat → Int} (h : Raws w a n c Z) (k : Below w.heap.size w w') : Raws w' a n c Z := fun i W hW => h i W (k.trans (hW.mono k.size))
theorem raws_none (w : World) : Raws w none 0 0 (fun _ => 0) := raw_det Option.none 0 0 0 0 (fun _ => 0) w (fun h => absurd h (by omega)) (by omega) (fun j hj => absurd hj (by omega))
theorem PicAt.up {w w' : World} {b o : Nat} (h : PicAt w b o) (k : Below w.heap.size w w') : PicAt w' b o := by
  obtain ⟨a1, a2, n1, c1, n2, c2, Z1, Z2, g, h1, h2, h3, h4, h5⟩ := h
  have up : ∀ {p : Addr} {v : Value}, w.cell? p = some v → w'.cell? p = some v := fun hc => (k.cell (World.block_lt_of_cell? _ _ hc)).trans hc
  exact ⟨a1, a2, n1, c1, n2, c2, Z1, Z2, g, up h1, up h2, up h3, h4.up k, h5.up k⟩
end Go.Proofs.YtaokifbpakbgdaaGreatDoor

/- Data sets that are made out of few elements: they are right, their bytes are few, and they come back out of them (no program). -/
namespace Go.Proofs.YtaokifbpakbgdaaGreatDoor

theorem errE_at {n : Nat} {g : Its n → Int} {d : Nat} {b b' : Int} {x : El (n + 1)} (h : errE g d b x = 0) (hb : b' < x.1) : errE g d b' x = 0 := by
  obtain ⟨e1, e2, e3, e4, e5, e6, e7, e8, e9, e10, e11, e12⟩ := errE_ok h
  exact errE_make e1 e2 e3 e4 hb e6 e7 e8 e9 e10 e11 e12
theorem errL_make {n : Nat} {g : Its n → Int} {d : Nat} : ∀ {l : List (El (n + 1))} {b : Int}, Rise l → (∀ x ∈ l, b < x.1) → (∀ x ∈ l, ∃ c, errE g d c x = 0) → errL (errE g d) (fun x => x.1) b l = 0
  | [], _, _, _, _ => rfl
  | x :: l, b, h, hb, hx => by
    obtain ⟨c, hc⟩ := hx x List.mem_cons_self
    rw [errL, if_pos (errE_at hc (hb x List.mem_cons_self))]
    have h2 := List.pairwise_cons.1 h
    exact errL_make h2.2 (fun y hy => h2.1 y hy) (fun y hy => hx y (List.mem_cons_of_mem _ hy))
theorem errS_make {n d : Nat} {l : List (El (n + 1))} (h24 : l.length ≤ 24) (h : Rise l) (hx : ∀ x ∈ l, ∃ c, errE (errI (errS n (d + 1))) d c x = 0) : errS (n + 1) d l = 0 := by
  rw [errS, if_neg (by omega)]
  refine errL_make h (fun x hm => ?_) hx
  obtain ⟨c, hc⟩ := hx x hm
  have := (errE_ok hc).2.1
  omega
theorem errS_srt {n d : Nat} {l : List (El (n + 1))} (h24 : l.length ≤ 24) (h : (l.map (·.1)).Nodup) (hx : ∀ x ∈ l, ∃ c, errE (errI (errS n (d + 1))) d c x = 0) : errS (n + 1) d (srtE l) = 0 :=
  errS_make (by rw [srtE_len]; exact h24) (srtE_rise h) (fun x hm => hx x ((srtE_perm l).mem_iff.1 hm))
/-- An element without items. -/
def flE (n : Nat) (t : Int) (k v : By) : El (n + 1) := (t, k, v, [])
theorem flE_ok {n d : Nat} {g : Its n → Int} {t : Int} {k v : By} (hg : g [] = 0) (h1 : isK k = true) (hq : k ≠ SQ) (h2 : 0 ≤ t) (h3 : t ≤ 4294967295) (h4 : t / 65536 ≠ 65534) (h6 : v.length ≤ 64) (h7 : v.getLast? ≠ some (padB k)) : ∃ c, errE g d c (flE n t k v) = 0 :=
  ⟨t - 1, errE_make h1 h2 h3 h4 (show t - 1 < t by omega) h6 h7 (fun h => absurd h hq) (fun _ => rfl) (Nat.zero_le _) (fun h => absurd h hq) hg⟩
theorem errI_nil {α : Type} (f : List α → Int) : errI f [] = 0 := rfl
theorem wrE_flat {n : Nat} {f : List (El n) → By} {x : El (n + 1)} (hk : x.2.1.length = 2) (hq : x.2.1 ≠ SQ) (hv : x.2.2.1.length ≤ 64) : (wrE f false 0 x).length ≤ 80 := by
  have hT : (wrT x.1).length = 4 := by simp [wrT, lows_length]
  unfold wrE
  rw [List.length_append, List.length_append, hT, hk, if_neg hq, List.length_append, lows_length, wrV_len]
  omega
theorem wrS_few {n : Nat} {l : List (El (n + 1))} {B : Nat} (hx : ∀ x ∈ l, (wrE (wrS false 0 n) false 0 x).length ≤ B) : (wrS false 0 (n + 1) l).length ≤ l.length * B := by
  rw [wrS_succ]
  exact flat_bound hx
theorem wrE_parts {n : Nat} {x : El (n + 2)} (hk : x.2.1.length = 2) (h2 : x.2.2.2.length ≤ 2) (hs : ∀ s ∈ x.2.2.2, s.length ≤ 2 ∧ ∀ y ∈ s, y.2.1.length = 2 ∧ y.2.1 ≠ SQ ∧ y.2.2.1.length ≤ 64) (hv : x.2.2.1.length ≤ 64) : (wrE (wrS false 0 (n + 1)) false 0 x).length ≤ 600 := by
  by_cases hq : x.2.1 = SQ
  · have hT : (wrT x.1).length = 4 := by simp [wrT, lows_length]
    have hits := flat_bound (e := wrI (wrS false 0 (n + 1)) false) (B := 168) (l := x.2.2.2) (fun s hm => by
      obtain ⟨k1, k2⟩ := hs s hm
      have := wrS_few (n := n) (l := s) (B := 80) (fun y hy => wrE_flat (k2 y hy).1 (k2 y hy).2.1 (k2 y hy).2.2)
      have h3 : s.length * 80 ≤ 2 * 80 := Nat.mul_le_mul_right _ k1
      unfold wrI sizeB
      simp [lows_length]
      omega)
    have h8 : x.2.2.2.length * 168 ≤ 2 * 168 := Nat.mul_le_mul_right _ h2
    unfold wrE
    rw [List.length_append, List.length_append, hT, hk, if_pos hq]
    unfold wrQ sizeB
    simp only [List.length_append, lows_length, List.length_cons, List.length_nil, if_false, Bool.false_eq_true]
    omega
  · exact Nat.le_trans (wrE_flat hk hq hv) (by decide)
/-- What is written comes back. -/
theorem way_parse {l : List (El 3)} (h : errS 3 0 l = 0) (hl : (wrS false 0 3 l).length ≤ 16384) : parse 3 (wrS false 0 3 l) = some l ∧ decE 3 (wrS false 0 3 l) = 0 := by
  have hp : parse 3 (wrS false 0 3 l) = some l := by
    by_cases hn : l = []
    · subst hn; rfl
    have hb : (wrS false 0 (2 + 1) l).length < 4294967295 := Nat.lt_of_le_of_lt hl (by decide)
    have h1 := toEnd_wrS false 0 (by omega) 2 0 (by omega) l h (fun _ => hb) (wrS false 0 3 l).length
    have hle := (toEnd_wrS false 0 (by omega) 2 0 (by omega) l h (fun _ => hb) 2 (by omega) [] l.length (Nat.le_refl _)).2
    have h4 : 2 ≤ (wrS false 0 3 l).length := by
      cases l with
      | nil => exact absurd rfl hn
      | cons x l =>
        rw [wrS_succ, List.map_cons, List.flatten_cons, List.length_append]
        unfold wrE
        have hT : (wrT x.1).length = 4 := by simp [wrT, lows_length]
        rw [List.length_append, List.length_append, hT]
        omega
    have := (h1 h4 [] (wrS false 0 3 l).length hle).1
    rw [List.append_nil, toEnd_nil] at this
    unfold parse
    rw [this]
    simp
  exact ⟨hp, by unfold decE; rw [if_neg (by omega), hp]; exact h⟩
end Go.Proofs.YtaokifbpakbgdaaGreatDoor

/- The descriptions that foliokeep's numbers speak of: their names, and that they are right (no program). -/
namespace Go.Proofs.YtaokifbpakbgdaaGreatDoor

/-- The names of a picture, out of the numbers of its patient, study, series and picture. -/
def nmP (p s e c : Nat) : Nat → By
  | 0 => 80 :: dgs 1 p
  | 1 => [49, 46] ++ dgs 2 (s + 10)
  | 2 => [49, 46, 50, 46] ++ dgs 2 (e + 10)
  | _ => [49, 46, 50, 46, 51, 46] ++ dgs 3 (7 * e + c + 100)
def NumsOk (p s e c : Nat) : Prop := p < 3 ∧ (s = 3 * p ∨ s = 3 * p + 1) ∧ (e = 5 * s ∨ e = 5 * s + 1) ∧ c < 3
/-- What a name must be to be asked for as it is. -/
def NmOk (k v : By) : Prop := chk k v = 0 ∧ v ≠ [] ∧ v.length ≤ 64 ∧ v.getLast? ≠ some (padB k) ∧ v.any (fun c => decide (c.toNat = 42) || decide (c.toNat = 63)) = false ∧ (92 : UInt8) ∉ v
instance (k v : By) : Decidable (NmOk k v) := by unfold NmOk; infer_instance
theorem nmP0_ok : ∀ p, p < 3 → NmOk [76, 79] (80 :: dgs 1 p) := by decide
theorem nmP1_ok : ∀ s, s < 8 → NmOk [85, 73] ([49, 46] ++ dgs 2 (s + 10)) := by decide
theorem nmP2_ok : ∀ e, e < 37 → NmOk [85, 73] ([49, 46, 50, 46] ++ dgs 2 (e + 10)) := by decide
set_option maxRecDepth 100000 in
set_option maxHeartbeats 4000000 in
theorem nmP3_ok : ∀ n, n < 255 → NmOk [85, 73] ([49, 46, 50, 46, 51, 46] ++ dgs 3 (n + 100)) := by decide
theorem kindT_name (i : Nat) (h : i < 4) : kindT (nameT i) = if i = 0 then [76, 79] else [85, 73] := by
  rcases (show i = 0 ∨ i = 1 ∨ i = 2 ∨ i = 3 by omega) with rfl | rfl | rfl | rfl <;> decide
theorem nmP_ok {p s e c : Nat} (h : NumsOk p s e c) (i : Nat) (hi : i < 4) : NmOk (kindT (nameT i)) (nmP p s e c i) := by
  obtain ⟨h1, h2, h3, h4⟩ := h
  rw [kindT_name i hi]
  rcases (show i = 0 ∨ i = 1 ∨ i = 2 ∨ i = 3 by omega) with rfl | rfl | rfl | rfl
  · exact nmP0_ok p h1
  · exact nmP1_ok s (by omega)
  · exact nmP2_ok e (by omega)
  · exact nmP3_ok (7 * e + c) (by omega)
theorem dgs_inj {k a b : Nat} (ha : a < 10 ^ k) (hb : b < 10 ^ k) (h : dgs k a = dgs k b) : a = b := by
  have := congrArg num h
  rw [dgs_num, dgs_num, Nat.mod_eq_of_lt ha, Nat.mod_eq_of_lt hb] at this
  omega
/-- A series tells its study, a study its patient. -/
theorem nmP_up1 {p s e c p' s' e' c' : Nat} (h : NumsOk p s e c) (h' : NumsOk p' s' e' c') (hn : nmP p s e c 1 = nmP p' s' e' c' 1) : nmP p s e c 0 = nmP p' s' e' c' 0 := by
  obtain ⟨h1, h2, h3, h4⟩ := h
  obtain ⟨k1, k2, k3, k4⟩ := h'
  have e1 := dgs_inj (by omega) (by omega) (List.append_cancel_left (show [49, 46] ++ dgs 2 (s + 10) = [49, 46] ++ dgs 2 (s' + 10) from hn))
  have : p = p' := by omega
  rw [this]; rfl
theorem nmP_up2 {p s e c p' s' e' c' : Nat} (h : NumsOk p s e c) (h' : NumsOk p' s' e' c') (hn : nmP p s e c 2 = nmP p' s' e' c' 2) : nmP p s e c 1 = nmP p' s' e' c' 1 := by
  obtain ⟨h1, h2, h3, h4⟩ := h
  obtain ⟨k1, k2, k3, k4⟩ := h'
  have e1 := dgs_inj (by omega) (by omega) (List.append_cancel_left (show [49, 46, 50, 46] ++ dgs 2 (e + 10) = [49, 46, 50, 46] ++ dgs 2 (e' + 10) from hn))
  have : s = s' := by omega
  rw [this]; rfl
theorem nmP_up3 {p s e c p' s' e' c' : Nat} (h : NumsOk p s e c) (h' : NumsOk p' s' e' c') (hn : nmP p s e c 3 = nmP p' s' e' c' 3) : nmP p s e c 2 = nmP p' s' e' c' 2 := by
  obtain ⟨h1, h2, h3, h4⟩ := h
  obtain ⟨k1, k2, k3, k4⟩ := h'
  have e1 := dgs_inj (by omega) (by omega) (List.append_cancel_left (show [49, 46, 50, 46, 51, 46] ++ dgs 3 (7 * e + c + 100) = [49, 46, 50, 46, 51, 46] ++ dgs 3 (7 * e' + c' + 100) from hn))
  have : e = e' := by omega
  rw [this]; rfl
/-- An element that may stand in a description. -/
def DOk (x : El 3) : Prop := (∃ c, errE (errI (errS 2 1)) 0 c x = 0) ∧ bad1 (n := 1) x = false ∧ bad2 (n := 1) x = false ∧ (wrE (wrS false 0 2) false 0 x).length ≤ 600
theorem dok_flat {t : Int} {k v : By} (hk : kindT t = k) (h1 : isK k = true) (hq : k ≠ SQ) (h2 : 0 ≤ t) (h3 : t ≤ 4294967295) (h4 : t / 65536 ≠ 65534) (h6 : v.length ≤ 64) (h7 : v.getLast? ≠ some (padB k)) (hc : chk k v = 0) : DOk (flE 2 t k v) := by
  refine ⟨flE_ok (errI_nil _) h1 hq h2 h3 h4 h6 h7, ?_, ?_, Nat.le_trans (wrE_flat (x := flE 2 t k v) (isK_length h1) hq h6) (by decide)⟩
  · unfold bad1 flE
    simp [hk, badI]
  · unfold bad2 flE
    simp only [hk]
    rw [if_neg hq]
    simp [hc]
/-- What stands in the parts. -/
def itW (v1 v2 : By) : List (El 2) := [flE 1 524544 LO v1, flE 1 524548 LO v2]
theorem itW_ok {v1 v2 : By} (h1 : NmOk LO v1) (h2 : NmOk LO v2) : errS 2 1 (itW v1 v2) = 0 := by
  refine errS_make (n := 1) (d := 1) (show 2 ≤ 24 by decide) ?_ (fun x hx => ?_)
  · exact List.pairwise_cons.2 ⟨fun y hy => by rw [List.mem_singleton] at hy; subst hy; show (524544 : Int) < 524548; decide, List.pairwise_singleton _ _⟩
  · unfold itW at hx
    rcases List.mem_cons.1 hx with rfl | hx
    · exact flE_ok (errI_nil _) (by decide) (by decide) (by decide) (by decide) (by decide) h1.2.2.1 h1.2.2.2.1
    · rw [List.mem_singleton] at hx
      subst hx
      exact flE_ok (errI_nil _) (by decide) (by decide) (by decide) (by decide) (by decide) h2.2.2.1 h2.2.2.2.1
theorem itW_bad (v : Bool) {v1 v2 : By} (h1 : NmOk LO v1) (h2 : NmOk LO v2) : (itW v1 v2).any (badY (n := 1) v) = false := by
  rw [List.any_eq_false]
  intro x hx
  unfold itW at hx
  unfold badY
  rcases List.mem_cons.1 hx with rfl | hx
  · simp [flE, h1.1]
  · rw [List.mem_singleton] at hx
    subst hx
    simp [flE, h2.1]
theorem dok_parts {its : Its 2} (h2 : its.length ≤ 2) (hs : ∀ s ∈ its, ∃ v1 v2, NmOk LO v1 ∧ NmOk LO v2 ∧ s = itW v1 v2) : DOk ((533016, SQ, [], its) : El 3) := by
  have hb : ∀ v, badI (n := 1) v its = false := fun v => by
    unfold badI
    rw [List.any_eq_false]
    intro s hm
    obtain ⟨v1, v2, k1, k2, rfl⟩ := hs s hm
    rw [itW_bad v k1 k2]
    simp
  refine ⟨⟨533015, errE_make (show isK SQ = true by decide) (show (0 : Int) ≤ 533016 by decide) (show (533016 : Int) ≤ 4294967295 by decide) (show (533016 : Int) / 65536 ≠ 65534 by decide) (show (533015 : Int) < 533016 by decide) (Nat.zero_le _) (by simp) (fun _ => rfl) (fun h => absurd rfl h) (by show its.length ≤ 8; omega) (fun _ => by decide) (errI_make (fun s hm => ?_))⟩, ?_, ?_, wrE_parts (n := 1) rfl h2 (fun s hm => ?_) (Nat.zero_le _)⟩
  · obtain ⟨v1, v2, k1, k2, rfl⟩ := hs s hm
    exact itW_ok k1 k2
  · show (decide (kindT 533016 ≠ []) && (decide (SQ ≠ kindT 533016) || badI (n := 1) false its)) = false
    rw [hb]
    decide
  · show (decide (kindT 533016 ≠ []) && (if kindT 533016 = SQ then badI (n := 1) true its else decide (chk (kindT 533016) [] ≠ 0))) = false
    rw [hb]
    decide
  · obtain ⟨v1, v2, k1, k2, rfl⟩ := hs s hm
    refine ⟨by show 2 ≤ 2; decide, fun y hy => ?_⟩
    unfold itW at hy
    rcases List.mem_cons.1 hy with rfl | hy
    · exact ⟨rfl, (by decide : LO ≠ SQ), k1.2.2.1⟩
    · rw [List.mem_singleton] at hy
      subst hy
      exact ⟨rfl, (by decide : LO ≠ SQ), k2.2.2.1⟩
/-- A description out of numbers. -/
def Desc (l : List (El 3)) : Prop := errS 3 0 l = 0 ∧ desE (n := 1) l = 0 ∧ (wrS false 0 3 l).length ≤ 16384 ∧ (∀ x ∈ l, DOk x) ∧ ∃ p s e c, NumsOk p s e c ∧ ∀ i, i < 4 → nm (n := 2) i l = nmP p s e c i
def nmL (p s e c : Nat) : List (El 3) := [flE 2 1048608 [76, 79] (nmP p s e c 0), flE 2 2097165 [85, 73] (nmP p s e c 1), flE 2 2097166 [85, 73] (nmP p s e c 2), flE 2 524312 [85, 73] (nmP p s e c 3)]
theorem nmL_dok {p s e c : Nat} (h : NumsOk p s e c) : ∀ x ∈ nmL p s e c, DOk x := fun x hx => by
  have k : ∀ i, i < 4 → DOk (flE 2 (nameT i) (kindT (nameT i)) (nmP p s e c i)) := fun i hi => by
    obtain ⟨h1, h2, h3, h4, _⟩ := nmP_ok h i hi
    refine dok_flat rfl ?_ ?_ ?_ ?_ ?_ h3 h4 h1 <;> (rcases (show i = 0 ∨ i = 1 ∨ i = 2 ∨ i = 3 by omega) with rfl | rfl | rfl | rfl <;> decide)
  unfold nmL at hx
  simp only [List.mem_cons, List.not_mem_nil, or_false] at hx
  rcases hx with rfl | rfl | rfl | rfl
  · exact k 0 (by decide)
  · exact k 1 (by decide)
  · exact k 2 (by decide)
  · exact k 3 (by decide)
theorem desE_make {l : List (El 3)} (h : ∀ x ∈ l, DOk x) (hn : ∀ i, i < 4 → nm (n := 2) i l ≠ []) : desE (n := 1) l = 0 := by
  unfold desE
  rw [if_neg (by rw [Bool.not_eq_true, List.any_eq_false]; exact fun x hx => by rw [(h x hx).2.1]; decide), if_neg (by rw [Bool.not_eq_true, List.any_eq_false]; exact fun x hx => by rw [(h x hx).2.2.1]; decide), if_neg]
  rintro (k | k | k | k)
  · exact hn 0 (by decide) k
  · exact hn 1 (by decide) k
  · exact hn 2 (by decide) k
  · exact hn 3 (by decide) k
abbrev restT : List Int := [1048592, 524320, 524336, 524368, 524384, 2097169, 2097171, 533016]
/-- What is made of names and some of the rest, by the tags, is a description. -/
theorem desc_mk {p s e c : Nat} (h : NumsOk p s e c) {r : List (El 3)} (hr : (r.map (·.1)).Sublist restT) (hx : ∀ x ∈ r, DOk x) : Desc (srtE (n := 2) (nmL p s e c ++ r)) := by
  have hnd : ((nmL p s e c ++ r).map (·.1)).Nodup := by
    rw [List.map_append]
    have hs : ((nmL p s e c).map (·.1) ++ r.map (·.1)).Sublist ([1048608, 2097165, 2097166, 524312] ++ restT) := List.Sublist.append (List.Sublist.refl _) hr
    exact hs.nodup (by decide)
  have hlen : (nmL p s e c ++ r).length ≤ 12 := by
    have h1 := hr.length_le
    rw [List.length_map] at h1
    have h2 : restT.length = 8 := rfl
    have h3 : (nmL p s e c).length = 4 := rfl
    rw [List.length_append]
    omega
  have hall : ∀ x ∈ nmL p s e c ++ r, DOk x := fun x hm => by
    rcases List.mem_append.1 hm with hm | hm
    · exact nmL_dok h x hm
    · exact hx x hm
  have hall' : ∀ x ∈ srtE (n := 2) (nmL p s e c ++ r), DOk x := fun x hm => hall x ((srtE_perm _).mem_iff.1 hm)
  have hnm : ∀ i, i < 4 → nm (n := 2) i (srtE (n := 2) (nmL p s e c ++ r)) = nmP p s e c i := fun i hi => by
    unfold nm
    rw [textE_srt hnd]
    have : findE (n := 2) (nmL p s e c ++ r) (nameT i) = some (flE 2 (nameT i) (if i = 0 then [76, 79] else [85, 73]) (nmP p s e c i)) := by
      refine (findE_iff hnd).2 ⟨List.mem_append_left _ ?_, rfl⟩
      unfold nmL
      rcases (show i = 0 ∨ i = 1 ∨ i = 2 ∨ i = 3 by omega) with rfl | rfl | rfl | rfl
      · exact List.mem_cons_self
      · exact List.mem_cons_of_mem _ List.mem_cons_self
      · exact List.mem_cons_of_mem _ (List.mem_cons_of_mem _ List.mem_cons_self)
      · exact List.mem_cons_of_mem _ (List.mem_cons_of_mem _ (List.mem_cons_of_mem _ List.mem_cons_self))
    unfold textE
    rw [this]
    rfl
  have hb : (wrS false 0 3 (srtE (n := 2) (nmL p s e c ++ r))).length ≤ (srtE (n := 2) (nmL p s e c ++ r)).length * 600 := wrS_few (n := 2) (B := 600) (fun x hm => (hall' x hm).2.2.2)
  rw [srtE_len] at hb
  have hb2 : (nmL p s e c ++ r).length * 600 ≤ 12 * 600 := Nat.mul_le_mul_right _ hlen
  refine ⟨errS_srt (n := 2) (by omega) hnd (fun x hm => (hall x hm).1), desE_make hall' (fun i hi => ?_), by omega, hall', p, s, e, c, h, hnm⟩
  rw [hnm i hi]
  exact (nmP_ok h i hi).2.1
end Go.Proofs.YtaokifbpakbgdaaGreatDoor
