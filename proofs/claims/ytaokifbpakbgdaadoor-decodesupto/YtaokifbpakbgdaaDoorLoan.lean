/-
  Rows of lists that a struct holds and that grow; blocks whose cells are told place by place; worlds in which only some blocks turn (no program).
-/
import Derived.Test.YtaokifbpakbgdaaDoorMem
import Derived.Laws.CopyOwn
import Derived.OwnWalk
namespace Go.Proofs.YtaokifbpakbgdaaDoor
open Go.RowKit

/-- Nothing that was there has turned but blocks of S. -/
def Kp (S : Nat → Prop) (w w' : World) : Prop := (w'.os = w.os ∧ w'.tape = w.tape ∧ w'.output = w.output) ∧ w.heap.size ≤ w'.heap.size ∧ ∀ j, j < w.heap.size → ¬ S j → w'.heap[j]? = w.heap[j]?
theorem Kp.size {S : Nat → Prop} {w w' : World} (h : Kp S w w') : w.heap.size ≤ w'.heap.size := h.2.1
theorem Kp.block {S : Nat → Prop} {w w' : World} (h : Kp S w w') {j : Nat} (hj : j < w.heap.size) (hs : ¬ S j) : w'.heap[j]? = w.heap[j]? := h.2.2 j hj hs
theorem Kp.refl (S : Nat → Prop) (w : World) : Kp S w w := ⟨⟨rfl, rfl, rfl⟩, Nat.le_refl _, fun _ _ _ => rfl⟩
theorem Kp.of_below {S : Nat → Prop} {w w' : World} (h : Below w.heap.size w w') : Kp S w w' := ⟨⟨h.os, h.tape, h.output⟩, h.size, fun j hj _ => h.block j hj⟩
theorem Kp.trans {S S' : Nat → Prop} {w w1 w2 : World} (h : Kp S w w1) (k : Kp S' w1 w2) (hs : ∀ j, S' j → S j ∨ w.heap.size ≤ j) : Kp S w w2 :=
  ⟨⟨k.1.1.trans h.1.1, k.1.2.1.trans h.1.2.1, k.1.2.2.trans h.1.2.2⟩, Nat.le_trans h.size k.size, fun j hj hn => by
    rw [k.block (Nat.lt_of_lt_of_le hj h.size) (fun e => by rcases hs j e with e | e; (· exact hn e); omega), h.block hj hn]⟩
theorem Kp.alloc {S : Nat → Prop} {w w' : World} (h : Kp S w w') (o : Obj) : Kp S w (w'.alloc o) := h.trans (S' := fun _ => False) (Kp.of_below (Below.alloc (Below.refl _ _) (Nat.le_refl _) o)) (fun _ e => e.elim)
theorem Kp.setCell {S : Nat → Prop} {w w' : World} (h : Kp S w w') {p : Addr} (hp : S p.block ∨ w.heap.size ≤ p.block) (u : Value) : Kp S w (w'.setCell p u) :=
  ⟨h.1, by have := h.size; simpa using this, fun j hj hn => by
    rw [Below.heap_setCell w' p u j (by rintro rfl; rcases hp with hp | hp; (· exact hn hp); omega)]; exact h.block hj hn⟩
theorem Kp.grown {S : Nat → Prop} {w w1 w2 : World} {row : Option Nat} (h : Kp S w w1) (hg : w1.grownBy w2 row) (hr : ∀ k, row = some k → S k ∨ w.heap.size ≤ k) : Kp S w w2 :=
  h.trans (S' := fun j => row = some j) ⟨⟨hg.os, hg.tape, hg.output⟩, hg.size, fun j hj hn => hg.block j hj (fun e => hn e.symm)⟩ hr
theorem Kp.below {S : Nat → Prop} {w w' : World} (h : Kp S w w') {B : Nat} (hS : ∀ j, S j → B ≤ j) (hB : B ≤ w.heap.size) : Below B w w' :=
  ⟨h.1.1, h.1.2.1, h.1.2.2, h.size, fun j hj => h.block (by omega) (fun e => by have := hS j e; omega)⟩

/-- A block of N cells, told place by place. -/
def HasC (w : World) (g : Nat) (T : TypeId) (N : Nat) (P : Nat → Value → Prop) : Prop := ∃ xs : Array Value, w.heap[g]? = some (.cells xs T (0, 0)) ∧ xs.size = N ∧ ∀ j v, xs[j]? = some v → P j v
theorem HasC.lt {w : World} {g : Nat} {T : TypeId} {N : Nat} {P : Nat → Value → Prop} (h : HasC w g T N P) : g < w.heap.size := by obtain ⟨xs, h, _⟩ := h; exact lt_of_block h
theorem HasC.cell {w : World} {g : Nat} {T : TypeId} {N : Nat} {P : Nat → Value → Prop} (h : HasC w g T N P) {j : Nat} (hj : j < N) : ∃ v, w.cell? ⟨g, j, none⟩ = some v ∧ P j v := by
  obtain ⟨xs, hg, hs, hc⟩ := h
  have hx : xs[j]? = some xs[j] := Array.getElem?_eq_getElem (by omega)
  exact ⟨xs[j], by simp [World.cell?, hg, hx], hc j _ hx⟩
theorem HasC.free {w : World} {g : Nat} {T : TypeId} {N : Nat} {P : Nat → Value → Prop} (h : HasC w g T N P) (j : Nat) : w.frozen? ⟨g, j, none⟩ = false := by
  obtain ⟨xs, hg, _⟩ := h
  simp [World.frozen?, hg]
theorem HasC.keep {w w' : World} {g : Nat} {T : TypeId} {N : Nat} {P P' : Nat → Value → Prop} (h : HasC w g T N P) (hk : w'.heap[g]? = w.heap[g]?) (hp : ∀ j v, j < N → P j v → P' j v) : HasC w' g T N P' := by
  obtain ⟨xs, hg, hs, hc⟩ := h
  exact ⟨xs, by rw [hk, hg], hs, fun j v hv => hp j v (by have := (Array.getElem?_eq_some_iff.1 hv).1; omega) (hc j v hv)⟩
theorem set_block {w : World} {g j : Nat} {xs : Array Value} {T : TypeId} (h : w.heap[g]? = some (.cells xs T (0, 0))) (u : Value) : (w.setCell ⟨g, j, none⟩ u).heap[g]? = some (.cells (xs.setIfInBounds j u) T (0, 0)) := by
  rw [setCell_eq_setRow w g j xs T (0, 0) u h]
  exact setRow_heap w g xs _ T _ h
theorem HasC.set {w : World} {g : Nat} {T : TypeId} {N : Nat} {P P' : Nat → Value → Prop} (h : HasC w g T N P) (j : Nat) (u : Value) (hu : P' j u) (hp : ∀ i v, i < N → i ≠ j → P i v → P' i v) : HasC (w.setCell ⟨g, j, none⟩ u) g T N P' := by
  obtain ⟨xs, hg, hs, hc⟩ := h
  refine ⟨xs.setIfInBounds j u, set_block hg u, by simpa using hs, fun i v hv => ?_⟩
  have hi := (Array.getElem?_eq_some_iff.1 hv).1
  simp only [Array.size_setIfInBounds] at hi
  rw [Array.getElem?_setIfInBounds] at hv
  by_cases e : j = i
  · subst e
    rw [if_pos rfl, if_pos hi] at hv
    obtain rfl := Option.some.inj hv
    exact hu
  · rw [if_neg e] at hv
    exact hp i v (by omega) (fun e' => e e'.symm) (hc i v hv)
theorem HasC.new (w : World) (xs : Array Value) (T : TypeId) (P : Nat → Value → Prop) (hp : ∀ j v, xs[j]? = some v → P j v) : HasC (w.alloc (.cells xs T)) w.heap.size T xs.size P := ⟨xs, heap_alloc_new _ _, rfl, hp⟩

/-- A struct whose first cells are rows of its own, of things of one cell. -/
abbrev Rws := List (TypeId × Value × List Value)
def InR (B : Nat) (rows : Rws) (j : Nat) : Prop := j = B ∨ ∃ r ∈ rows, r.2.1.ownBlock = some j
def RowsOf (w : World) (B : Nat) (T : TypeId) (rows : Rws) (ext : List Value := []) : Prop := w.heap[B]? = some (.cells (rows.map (fun r => r.2.1) ++ ext).toArray T (0, 0)) ∧ (∀ r ∈ rows, w.ownsRow 0 r.1 1 r.2.1 r.2.2.length r.2.2 ∧ r.2.1.ownBlock ≠ some B) ∧
  ∀ (i j : Nat) (ri rj : TypeId × Value × List Value) (b : Nat), rows[i]? = some ri → rows[j]? = some rj → i ≠ j → ri.2.1.ownBlock = some b → rj.2.1.ownBlock ≠ some b
theorem RowsOf.lt {w : World} {B : Nat} {T : TypeId} {rows : Rws} {ext : List Value} (h : RowsOf w B T rows ext) {j : Nat} (hj : InR B rows j) : j < w.heap.size := by
  rcases hj with rfl | ⟨r, hr, e⟩
  · exact lt_of_block h.1
  · exact ownsRow_lt (h.2.1 r hr).1 j (by rw [e]; simp)
theorem RowsOf.keep {w w' : World} {B : Nat} {T : TypeId} {rows : Rws} {ext : List Value} (h : RowsOf w B T rows ext) (k : ∀ j, InR B rows j → w'.heap[j]? = w.heap[j]?) : RowsOf w' B T rows ext :=
  ⟨by rw [k B (Or.inl rfl)]; exact h.1, fun r hr => ⟨ownsRow_keep (h.2.1 r hr).1 (fun j hj => k j (Or.inr ⟨r, hr, by simpa using hj⟩)), (h.2.1 r hr).2⟩, h.2.2⟩
theorem RowsOf.below {w w' : World} {B : Nat} {T : TypeId} {rows : Rws} {ext : List Value} (h : RowsOf w B T rows ext) (k : Below w.heap.size w w') : RowsOf w' B T rows ext := h.keep (fun j hj => k.block j (h.lt hj))
/-- One thing more in the row of that place. -/
theorem RowsOf.push {w w1 w2 : World} {B f : Nat} {T e : TypeId} {rows : Rws} {ext : List Value} {v v' : Value} {X Y : List Value} (h : RowsOf w B T rows ext) (hf : rows[f]? = some (e, v, X)) (h1 : Below w.heap.size w w1)
    (hown : w2.ownsRow 0 e 1 v' (X.length + Y.length) (X ++ Y)) (hg : w1.grownBy w2 v.ownBlock) (hm : Moved w1 v v') :
    RowsOf (w2.setCell ⟨B, f, none⟩ v') B T (rows.set f (e, v', X ++ Y)) ext ∧ Kp (InR B rows) w (w2.setCell ⟨B, f, none⟩ v') ∧ ∀ j, InR B (rows.set f (e, v', X ++ Y)) j → InR B rows j ∨ w.heap.size ≤ j := by
  have hmem : (e, v, X) ∈ rows := List.mem_of_getElem? hf
  have hfl : f < rows.length := (List.getElem?_eq_some_iff.1 hf).1
  have hvB := (h.2.1 _ hmem).2
  have hBlt : B < w.heap.size := lt_of_block h.1
  have hs1 := h1.size
  have old : ∀ j, j < w.heap.size → some j ≠ v.ownBlock → w2.heap[j]? = w.heap[j]? := fun j hj hn => by rw [hg.block j (by omega) hn, h1.block j hj]
  have hB2 : w2.heap[B]? = some (.cells (rows.map (fun r => r.2.1) ++ ext).toArray T (0, 0)) := by rw [old B hBlt (fun e => hvB e.symm)]; exact h.1
  have hv' : ∀ b, v'.ownBlock = some b → v.ownBlock = some b ∨ w.heap.size ≤ b := fun b hb => by
    rcases hm with m | m
    · exact Or.inl (by rw [← m]; exact hb)
    · exact Or.inr (Nat.le_trans hs1 (m b (by rw [hb]; simp)))
  have hv'B : v'.ownBlock ≠ some B := fun e => by rcases hv' B e with e | e; (· exact hvB e); omega
  have other : ∀ (i : Nat) r, rows[i]? = some r → i ≠ f → ∀ b, r.2.1.ownBlock = some b → v'.ownBlock ≠ some b ∧ w2.heap[b]? = w.heap[b]? := fun i r hr hi b hb => by
    have hlt : b < w.heap.size := h.lt (Or.inr ⟨r, List.mem_of_getElem? hr, hb⟩)
    have hne := h.2.2 i f r _ b hr hf hi hb
    exact ⟨fun e => by rcases hv' b e with e | e; (· exact hne e); omega, old b hlt (fun e => hne e.symm)⟩
  refine ⟨⟨?_, ?_, ?_⟩, ?_, ?_⟩
  · rw [set_block hB2]
    congr 2
    rw [List.map_set, ← List.set_append_left _ _ (by rw [List.length_map]; exact hfl)]
    simp
  · intro r hr
    obtain ⟨i, hi⟩ := List.getElem?_of_mem hr
    rw [List.getElem?_set] at hi
    by_cases e1 : f = i
    · subst e1
      rw [if_pos rfl, if_pos hfl] at hi
      obtain rfl := Option.some.inj hi
      refine ⟨ownsRow_keep (by simpa using hown) (fun j hj => Below.heap_setCell _ _ _ _ (fun e => ?_)), hv'B⟩
      exact hv'B (by rw [← show j = B from e]; simpa using hj)
    · rw [if_neg e1] at hi
      have hr' := List.mem_of_getElem? hi
      refine ⟨ownsRow_keep (h.2.1 r hr').1 (fun j hj => ?_), (h.2.1 r hr').2⟩
      have hj' : r.2.1.ownBlock = some j := by simpa using hj
      rw [Below.heap_setCell _ _ _ _ (fun e => (h.2.1 r hr').2 (by rw [← show j = B from e]; exact hj'))]
      exact (other i r hi (fun e => e1 e.symm) j hj').2
  · intro i j ri rj b hi hj hij hb
    rw [List.getElem?_set] at hi hj
    by_cases e1 : f = i
    · subst e1
      rw [if_pos rfl, if_pos hfl] at hi
      obtain rfl := Option.some.inj hi
      rw [if_neg hij] at hj
      exact fun e => (other j rj hj (fun e => hij e.symm) b e).1 hb
    · rw [if_neg e1] at hi
      by_cases e2 : f = j
      · subst e2
        rw [if_pos rfl, if_pos hfl] at hj
        obtain rfl := Option.some.inj hj
        exact (other i ri hi (fun e => e1 e.symm) b hb).1
      · rw [if_neg e2] at hj
        exact h.2.2 i j ri rj b hi hj hij hb
  · refine Kp.setCell ?_ (Or.inl (Or.inl rfl)) _
    exact (Kp.of_below h1).grown hg (fun k hk => Or.inl (Or.inr ⟨_, hmem, hk⟩))
  · rintro j (rfl | ⟨r, hr, hj⟩)
    · exact Or.inl (Or.inl rfl)
    · obtain ⟨i, hi⟩ := List.getElem?_of_mem hr
      rw [List.getElem?_set] at hi
      by_cases e1 : f = i
      · subst e1
        rw [if_pos rfl, if_pos hfl] at hi
        obtain rfl := Option.some.inj hi
        rcases hv' j hj with e | e
        · exact Or.inl (Or.inr ⟨_, hmem, e⟩)
        · exact Or.inr e
      · rw [if_neg e1] at hi
        exact Or.inl (Or.inr ⟨r, List.mem_of_getElem? hi, hj⟩)
end Go.Proofs.YtaokifbpakbgdaaDoor
