/-
  Package foliolaw on archives: several archives and the document's beside them, in memory.
-/
import Derived.Test.YtaokifbpakbgdaaGreatDoorArS1
import Derived.Test.YtaokifbpakbgdaaGreatDoorArQ10
namespace Go.Proofs.YtaokifbpakbgdaaGreatDoor
open Go.RowKit

theorem Good.out {n : Nat} {A : List (List (El (n + 2)))} (h : Good A) (s : By) : Good (outA A s) :=
  ⟨Nat.le_trans (List.length_filter_le _ _) h.1, out_nodup h.2.1 s, fun l hl => h.2.2 l (List.mem_filter.1 hl).1⟩
theorem Good.lay {n : Nat} {A : List (List (El (n + 2)))} {l : List (El (n + 2))} (h : Good A) (hl : errS (n + 2) 0 l = 0) : Good (layA A l) := by
  unfold layA
  by_cases h0 : layE A l = 0
  · rw [if_pos h0]
    have hd : desE l = 0 := by
      unfold layE at h0
      by_cases e : desE l = 0
      · exact e
      · rw [if_pos e] at h0; exact absurd h0 e
    have h48 : (outA A (nm 3 l)).length < 48 := by
      unfold layE at h0
      rw [if_neg (by simp [hd])] at h0
      by_cases e : (outA A (nm 3 l)).any (clash l) = true
      · rw [if_pos e] at h0; cases h0
      · rw [if_neg e] at h0
        by_cases e2 : 48 ≤ (outA A (nm 3 l)).length
        · rw [if_pos e2] at h0; cases h0
        · omega
    have ho := h.out (nm 3 l)
    refine ⟨by rw [List.length_append]; simp; omega, ?_, fun x hx => ?_⟩
    · rw [List.map_append, List.nodup_append]
      refine ⟨ho.2.1, by simp, fun a ha b hb => ?_⟩
      rw [out_keys] at ha
      simp at ha hb
      rw [hb]
      exact ha.2
    · rcases List.mem_append.1 hx with hx | hx
      · exact ho.2.2 x hx
      · rw [List.mem_singleton] at hx
        subst hx
        exact ⟨hl, hd⟩
  · rw [if_neg h0]; exact h
theorem Good.sto {A : List (List (El 3))} (h : Good A) (s : By) : Good (stoA A s) := by
  unfold stoA
  by_cases h0 : decE 3 s = 0
  · rw [if_neg (by simp [h0])]
    cases hp : parse 3 s with
    | none => exact h
    | some l =>
      refine h.lay ?_
      unfold decE at h0
      rw [hp] at h0
      by_cases h1 : 16384 < s.length
      · rw [if_pos h1] at h0; cases h0
      · rw [if_neg h1] at h0; exact h0
  · rw [if_pos h0]; exact h
theorem Good.short {A : List (List (El 3))} (h : Good A) : ∀ l ∈ A, l.length ≤ 24 := fun l hl => (sane_of (n := 1) (h.2.2 l hl).1).1
/-- An archive and the document's. -/
structure Sh where
  p : Nat
  a : Nat
  m : Nat
  b : Nat
  T : Int
  A : List (List (El 3))
def Sh.mut (x : Sh) : List Nat := [x.a, x.m, x.b]
def mutL (xs : List Sh) : List Nat := (xs.map Sh.mut).flatten
def OkSh (w : World) (F : Nat → Prop) (x : Sh) (k : Nat) : Prop := PairAt w x.p x.a x.b ∧ F x.p ∧ ProA w F 1 x.a x.m x.T x.A ∧ RefA w F 2 x.b x.A ∧ Good x.A ∧ 0 ≤ x.T ∧ x.T ≤ k
def Shs (w : World) (F : Nat → Prop) (xs : List Sh) (k : Nat) : Prop := (mutL xs).Nodup ∧ (∀ j ∈ mutL xs, j < w.heap.size ∧ ¬ F j) ∧ (∀ j, F j → j < w.heap.size) ∧ ∀ x ∈ xs, OkSh w F x k
theorem mut_mem {xs : List Sh} {x : Sh} (h : x ∈ xs) {j : Nat} (hj : j ∈ x.mut) : j ∈ mutL xs := List.mem_flatten.2 ⟨_, List.mem_map.2 ⟨x, h, rfl⟩, hj⟩
theorem mut_apart {xs : List Sh} (h : (mutL xs).Nodup) {i j : Nat} (hi : i < xs.length) (hj : j < xs.length) (hne : i ≠ j) {c d : Nat} (hc : c ∈ (xs[i]).mut) (hd : d ∈ (xs[j]).mut) : c ≠ d := by
  have h2 := (List.pairwise_flatten.1 h).2
  rw [List.pairwise_iff_getElem] at h2
  rcases Nat.lt_or_gt_of_ne hne with h3 | h3
  · have := h2 i j (by simpa using hi) (by simpa using hj) h3
    rw [List.getElem_map, List.getElem_map] at this
    exact this c hc d hd
  · have := h2 j i (by simpa using hj) (by simpa using hi) h3
    rw [List.getElem_map, List.getElem_map] at this
    exact fun e => this d hd c hc e.symm
theorem OkSh.keep {w w' : World} {F F' : Nat → Prop} {x : Sh} {k k' : Nat} (h : OkSh w F x k) (hF : ∀ j, F j → F' j) (hk : ∀ j, F j → w'.heap[j]? = w.heap[j]?) (hm : ∀ j ∈ x.mut, w'.heap[j]? = w.heap[j]?) (hkk : k ≤ k') : OkSh w' F' x k' := by
  obtain ⟨h1, h2, h3, h4, h5, h6, h7⟩ := h
  exact ⟨h1.keep (hk _ h2), hF _ h2, h3.keep (hm _ (by simp [Sh.mut])) (hm _ (by simp [Sh.mut])) hF (fun j hj _ => hk j hj), h4.keep (hm _ (by simp [Sh.mut])) hF (fun j hj _ => hk j hj), h5, h6, by omega⟩
theorem Shs.keep {w w' : World} {F : Nat → Prop} {xs : List Sh} {k k' : Nat} (h : Shs w F xs k) (hz : w.heap.size ≤ w'.heap.size) (hk : ∀ j, F j ∨ j ∈ mutL xs → w'.heap[j]? = w.heap[j]?) (hkk : k ≤ k') : Shs w' F xs k' := by
  obtain ⟨h1, h2, h3, h4⟩ := h
  exact ⟨h1, fun j hj => ⟨Nat.lt_of_lt_of_le (h2 j hj).1 hz, (h2 j hj).2⟩, fun j hj => Nat.lt_of_lt_of_le (h3 j hj) hz, fun x hx => (h4 x hx).keep (fun _ h => h) (fun j hj => hk j (.inl hj)) (fun j hj => hk j (.inr (mut_mem hx hj))) hkk⟩
theorem Shs.up {w w' : World} {F : Nat → Prop} {xs : List Sh} {k k' : Nat} (h : Shs w F xs k) (u : Below w.heap.size w w') (hkk : k ≤ k') : Shs w' F xs k' :=
  h.keep u.size (fun j hj => u.block j (hj.elim (h.2.2.1 j) (fun hj => (h.2.1 j hj).1))) hkk
theorem mutL_set {xs : List Sh} {i : Nat} (hi : i < xs.length) {y : Sh} (h : y.mut = (xs[i]).mut) : mutL (xs.set i y) = mutL xs := by
  unfold mutL
  rw [List.map_set, h]
  congr 1
  apply List.ext_getElem
  · simp
  · intro j h1 h2
    rw [List.getElem_set]
    split
    · next e => subst e; simp
    · rfl
theorem mutL_snoc (xs : List Sh) (y : Sh) : mutL (xs ++ [y]) = mutL xs ++ y.mut := by
  unfold mutL
  rw [List.map_append, List.flatten_append]
  simp
theorem Shs.turn {w w' : World} {F : Nat → Prop} {xs : List Sh} {k i : Nat} (h : Shs w F xs k) (hi : i < xs.length) {T' : Int} {A' : List (List (El 3))} (hz : w.heap.size ≤ w'.heap.size)
    (hk : ∀ j, j < w.heap.size → j ≠ (xs[i]).a → j ≠ (xs[i]).m → j ≠ (xs[i]).b → w'.heap[j]? = w.heap[j]?) (hP : ProA w' (Nw F w w') 1 (xs[i]).a (xs[i]).m T' A') (hR : RefA w' (Nw F w w') 2 (xs[i]).b A') (hG : Good A') (hT : 0 ≤ T' ∧ T' ≤ k + 1) :
    Shs w' (Nw F w w') (xs.set i { xs[i] with T := T', A := A' }) (k + 1) := by
  have hm := mutL_set hi (y := { xs[i] with T := T', A := A' }) rfl
  obtain ⟨h1, h2, h3, h4⟩ := h
  have hlow : ∀ j, F j → w'.heap[j]? = w.heap[j]? := fun j hj => by
    refine hk j (h3 j hj) ?_ ?_ ?_ <;> (intro e; exact (h2 _ (mut_mem (List.getElem_mem hi) (by rw [e]; simp [Sh.mut]))).2 hj)
  refine ⟨by rw [hm]; exact h1, fun j hj => ?_, fun j hj => ?_, fun x hx => ?_⟩
  · rw [hm] at hj
    have := h2 j hj
    refine ⟨by omega, ?_⟩
    rintro (e | ⟨e, _⟩)
    · exact this.2 e
    · omega
  · rcases hj with e | ⟨_, e⟩
    · have := h3 j e; omega
    · exact e
  · obtain ⟨j, hj, rfl⟩ := List.mem_iff_getElem.1 hx
    rw [List.length_set] at hj
    rw [List.getElem_set]
    split
    · next e =>
      subst e
      obtain ⟨q1, q2, _⟩ := h4 _ (List.getElem_mem hi)
      exact ⟨q1.keep (hlow _ q2), .inl q2, hP, hR, hG, hT.1, hT.2⟩
    · next e =>
      refine (h4 _ (List.getElem_mem hj)).keep (fun _ h => .inl h) hlow (fun c hc => ?_) (Nat.le_succ _)
      have hne : ∀ d ∈ (xs[i]).mut, c ≠ d := fun d hd => (mut_apart h1 hi hj e hd hc).symm
      exact hk c (h2 c (mut_mem (List.getElem_mem hj) hc)).1 (hne _ (by simp [Sh.mut])) (hne _ (by simp [Sh.mut])) (hne _ (by simp [Sh.mut]))
theorem Shs.snoc {w w' : World} {F F' : Nat → Prop} {xs : List Sh} {k : Nat} {y : Sh} (h : Shs w F xs k) (hz : w.heap.size ≤ w'.heap.size) (hk : ∀ j, F j ∨ j ∈ mutL xs → w'.heap[j]? = w.heap[j]?)
    (hF : ∀ j, F' j ↔ F j ∨ j = y.p) (hy : y.mut.Nodup) (hlo : ∀ j ∈ y.p :: y.mut, w.heap.size ≤ j ∧ j < w'.heap.size) (hpm : y.p ∉ y.mut) (hO : OkSh w' F' y (k + 1)) : Shs w' F' (xs ++ [y]) (k + 1) := by
  obtain ⟨h1, h2, h3, h4⟩ := h
  rw [Shs, mutL_snoc]
  refine ⟨?_, fun j hj => ?_, fun j hj => ?_, fun x hx => ?_⟩
  · rw [List.nodup_append]
    exact ⟨h1, hy, fun a ha b hb e => by have := (h2 a ha).1; have := (hlo b (List.mem_cons_of_mem _ hb)).1; omega⟩
  · rcases List.mem_append.1 hj with hj | hj
    · refine ⟨Nat.lt_of_lt_of_le (h2 j hj).1 hz, fun e => ?_⟩
      rcases (hF j).1 e with e | e
      · exact (h2 j hj).2 e
      · have := (h2 j hj).1; have := (hlo y.p (List.mem_cons_self ..)).1; omega
    · have := hlo j (List.mem_cons_of_mem _ hj)
      refine ⟨this.2, fun e => ?_⟩
      rcases (hF j).1 e with e | e
      · have := h3 j e; omega
      · subst e; exact hpm hj
  · rcases (hF j).1 hj with e | e
    · exact Nat.lt_of_lt_of_le (h3 j e) hz
    · subst e; exact (hlo _ (List.mem_cons_self ..)).2
  · rcases List.mem_append.1 hx with hx | hx
    · exact (h4 x hx).keep (fun j h => (hF j).2 (.inl h)) (fun j hj => hk j (.inl hj)) (fun j hj => hk j (.inr (mut_mem hx hj))) (Nat.le_succ _)
    · rw [List.mem_singleton] at hx
      subst hx
      exact hO
/-- The caller's own: the row of pairs. -/
def Wld (w : World) (F : Nat → Prop) (wB : Nat) (v : Value) (xs : List Sh) : Prop := (∃ lv, w.heap[wB]? = some (.cells #[v, lv] 32 (0, 0))) ∧ w.ownsRow 0 37 1 v xs.length (xs.map (fun x => ptr x.p)) ∧ ¬ F wB ∧ wB ∉ mutL xs ∧ ∀ j, v.ownBlock = some j → j ≠ wB ∧ ¬ F j ∧ j ∉ mutL xs
theorem Wld.cell {w : World} {F : Nat → Prop} {wB : Nat} {v : Value} {xs : List Sh} (h : Wld w F wB v xs) : w.cell? ⟨wB, 0, none⟩ = some v ∧ w.frozen? ⟨wB, 0, none⟩ = false := by
  obtain ⟨lv, h⟩ := h.1
  simp [World.cell?, World.frozen?, h]
theorem Wld.lt {w : World} {F : Nat → Prop} {wB : Nat} {v : Value} {xs : List Sh} (h : Wld w F wB v xs) : wB < w.heap.size := by
  obtain ⟨lv, h⟩ := h.1
  exact lt_of_block h
theorem Wld.at {w : World} {F : Nat → Prop} {wB : Nat} {v : Value} {xs : List Sh} (h : Wld w F wB v xs) {q : Nat} (hq : q < xs.length) : ∃ g cap, v = .slice (some ⟨g, 0, none⟩) xs.length cap ∧ w.cell? ⟨g, q, none⟩ = some (ptr (xs[q]).p) := by
  have h2 := h.2.1
  rcases id h2.2 with ⟨_, h1⟩ | ⟨g, cap, cur, rfl, _⟩
  · omega
  · refine ⟨g, cap, rfl, ?_⟩
    rw [h2.cellAt q (by omega), List.getElem?_map, List.getElem?_eq_getElem hq]; rfl
theorem Wld.keep {w w' : World} {F F' : Nat → Prop} {wB : Nat} {v : Value} {xs xs' : List Sh} (h : Wld w F wB v xs) (hk : ∀ j, j < w.heap.size → ¬ j ∈ mutL xs → w'.heap[j]? = w.heap[j]?) (hF : ∀ j, F' j → F j ∨ w.heap.size ≤ j) (hm : mutL xs' = mutL xs) (hp : xs'.map (fun x => ptr x.p) = xs.map (fun x => ptr x.p)) : Wld w' F' wB v xs' := by
  have hlt := h.lt
  obtain ⟨⟨lv, h1⟩, h2, h3, h4, h5⟩ := h
  have hlen : xs'.length = xs.length := by simpa using congrArg List.length hp
  refine ⟨⟨lv, (hk wB hlt h4).trans h1⟩, ?_, fun e => ?_, by rw [hm]; exact h4, fun j hj => ?_⟩
  · rw [hlen, hp]
    exact ownsRow_keep h2 (fun j hj => hk j (ownsRow_lt h2 j hj) (h5 j (by simpa using hj)).2.2)
  · rcases hF wB e with e | e
    · exact h3 e
    · omega
  · obtain ⟨q1, q2, q3⟩ := h5 j hj
    refine ⟨q1, fun e => ?_, by rw [hm]; exact q3⟩
    rcases hF j e with e | e
    · exact q2 e
    · have := ownsRow_lt h2 j (by simpa using hj); omega
end Go.Proofs.YtaokifbpakbgdaaGreatDoor
