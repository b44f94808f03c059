/-
  Other elements are written into a list that was lent, and into a copy of what came in (no program).
-/
import Derived.Test.YtaokifbpakbgdaaDoorEnc0
namespace Go.Proofs.YtaokifbpakbgdaaDoor
open Go.RowKit

/-- The blocks that are left aside. -/
def XQ (W : World) (g1 z : Nat) (j : Nat) : Prop := j < W.heap.size ∨ j = g1 ∨ z ≤ j
/-- The copy. -/
def NQ {n : Nat} (W : World) (z : Nat) (S : Nat → Prop) (adn : Option Addr) (capn : Nat) (w : World) (L : List (El (n + 1))) : Prop :=
  L.length = 0 ∨ ∃ gn, adn = some ⟨gn, 0, none⟩ ∧ z ≤ gn ∧ ¬ S gn ∧ HasC w gn 37 (capn * 4) (OutQ w (fun j => j < W.heap.size) L L.length 0) ∧ L.length ≤ capn
def EQ {n : Nat} (W : World) (z B g1 g2 : Nat) (ES IS es is : List (Nat × Nat)) (S : Nat → Prop) (m : List (El (n + 1))) (adn : Option Addr) (capn : Nat) (w : World) (L : List (El (n + 1))) : Prop :=
  Below W.heap.size W w ∧ Ln w B ES IS S ∧ HasC w g1 37 (4 * (L.length + 8)) (OutQ w (Fz (XQ W g1 z) S w) L L.length (L.length + 8)) ∧
  HasC w g2 37 (4 * (m.length + 8)) (OutQ w (Fz (XQ W g1 z) S w) m m.length (m.length + 8)) ∧ NQ W z S adn capn w L ∧ Rms (XQ W g1 z) S w es is
theorem Ln4.set4 {w : World} {B : Nat} {E N I C : List Value} {S : Nat → Prop} (h : Ln4 w B E N I C S) {g : Nat} (hp : ¬ S g) (o : Nat) (c0 c1 c2 c3 : Value) : Ln4 (set4 w g o c0 c1 c2 c3) B E N I C S := h.keep (fun j hj => set4_other (fun e => hp (by rw [← e]; exact hj)))
theorem Below.set4 {W w : World} (h : Below W.heap.size W w) {g : Nat} (hg : W.heap.size ≤ g) (o : Nat) (c0 c1 c2 c3 : Value) : Below W.heap.size W (set4 w g o c0 c1 c2 c3) :=
  (((h.setCell (p := ⟨g, o, none⟩) hg c0).setCell (p := ⟨g, o + 1, none⟩) hg c1).setCell (p := ⟨g, o + 2, none⟩) hg c2).setCell (p := ⟨g, o + 3, none⟩) hg c3
theorem EQ.put {n : Nat} {W : World} {z B g1 g2 : Nat} {ES IS es is : List (Nat × Nat)} {S : Nat → Prop} {m : List (El (n + 1))} {gn capn : Nat} {w : World} {L : List (El (n + 1))} (h : EQ W z B g1 g2 ES IS es is S m (some ⟨gn, 0, none⟩) capn w L) {k : Nat} (hk : k < L.length) (x : El (n + 1)) {iv iv' : Value}
    (h1 : W.heap.size ≤ g1) (h2 : g1 < z) (h3 : g2 < z) (h4 : g1 ≠ g2) (h5 : ¬ S g1) (hiv : RdI w (Fz (XQ W g1 z) S w) n iv x.2.2.2) (hiv' : RdI w (fun j => j < W.heap.size) n iv' x.2.2.2) :
    EQ W z B g1 g2 ES IS es is S m (some ⟨gn, 0, none⟩) capn (set4 (set4 w g1 (k * 4) (.int .i64 x.1) (.string (bs x.2.1)) (.string (bs x.2.2.1)) iv) gn (k * 4) (.int .i64 x.1) (.string (bs x.2.1)) (.string (bs x.2.2.1)) iv') (L.set k x) := by
  obtain ⟨q1, q2, q3, q4, q5, q6⟩ := h
  rcases q5 with q5 | ⟨gn', e, q7, q8, q9, q10⟩
  · omega
  injection e with e
  injection e with e
  subst e
  have P1 := Pr.set4 (X := XQ W g1 z) (S := S) w (g := g1) (Or.inr (Or.inl rfl)) (k * 4) (.int .i64 x.1) (.string (bs x.2.1)) (.string (bs x.2.2.1)) iv
  have P2 := Pr.set4 (X := XQ W g1 z) (S := S) (set4 w g1 (k * 4) (.int .i64 x.1) (.string (bs x.2.1)) (.string (bs x.2.2.1)) iv) (g := gn) (Or.inr (Or.inr q7)) (k * 4) (.int .i64 x.1) (.string (bs x.2.1)) (.string (bs x.2.2.1)) iv'
  refine ⟨Below.set4 (Below.set4 q1 h1 _ _ _ _ _) (by omega) _ _ _ _ _, (q2.set4 h5 _ _ _ _ _).set4 q8 _ _ _ _ _, ?_, ?_, Or.inr ⟨gn, rfl, q7, q8, ?_, by rw [List.length_set]; exact q10⟩, (q6.up P1).up P2⟩
  · have := out_put (F' := Fz (XQ W g1 z) S (set4 w g1 (k * 4) (.int .i64 x.1) (.string (bs x.2.1)) (.string (bs x.2.2.1)) iv)) q3 hk (fun j hj => ⟨fun e => hj.1 (by rw [e]; exact Or.inr (Or.inl rfl)), (P1 j hj).2⟩) hiv
    rw [List.length_set]
    exact this.keep (set4_other (by omega)) (fun j v _ hv => hv.move P2)
  · exact q4.keep ((set4_other (by omega)).trans (set4_other (fun e => h4 e.symm))) (fun j v _ hv => hv.move (P1.trans P2))
  · rw [List.length_set]
    have hk1 : ∀ j, j < W.heap.size → (set4 w g1 (k * 4) (.int .i64 x.1) (.string (bs x.2.1)) (.string (bs x.2.2.1)) iv).heap[j]? = w.heap[j]? ∧ j < W.heap.size := fun j hj => ⟨set4_other (by omega), hj⟩
    have r9 := q9.keep (w' := set4 w g1 (k * 4) (.int .i64 x.1) (.string (bs x.2.1)) (.string (bs x.2.2.1)) iv) (set4_other (by omega)) (fun j v _ hv => hv.move hk1)
    exact out_put (F' := fun j => j < W.heap.size) r9 hk (fun j hj => ⟨by omega, hj⟩) (hiv'.keep (fun _ h => h) (fun j hj _ => (hk1 j hj).1))
theorem EQ.below {n : Nat} {W : World} {z B g1 g2 : Nat} {ES IS es is : List (Nat × Nat)} {S : Nat → Prop} {m : List (El (n + 1))} {adn : Option Addr} {capn : Nat} {w w' : World} {L : List (El (n + 1))} (h : EQ W z B g1 g2 ES IS es is S m adn capn w L) (k : Below w.heap.size w w') : EQ W z B g1 g2 ES IS es is S m adn capn w' L := by
  obtain ⟨q1, q2, q3, q4, q5, q6⟩ := h
  have hs := q1.size
  have P := (Nx.of_below (S := S) k).pr (X := XQ W g1 z)
  refine ⟨q1.trans (k.mono hs), q2.below k, q3.keep (k.block _ q3.lt) (fun j v _ hv => hv.up P), q4.keep (k.block _ q4.lt) (fun j v _ hv => hv.up P), ?_, q6.up P⟩
  rcases q5 with q5 | ⟨gn, e, q7, q8, q9, q10⟩
  · exact Or.inl q5
  · exact Or.inr ⟨gn, e, q7, q8, q9.keep (k.block _ q9.lt) (fun j v _ hv => hv.move (fun j hj => ⟨k.block _ (by omega), hj⟩)), q10⟩
/-- What the list that was lent reads as. -/
theorem EQ.lent {n : Nat} {W : World} {z B g1 g2 : Nat} {ES IS es is : List (Nat × Nat)} {S : Nat → Prop} {m : List (El (n + 1))} {adn : Option Addr} {capn cap len : Nat} {w : World} {L : List (El (n + 1))} (h : EQ W z B g1 g2 ES IS es is S m adn capn w L) (hl : L.length = len) : Rd w (fun j => j < w.heap.size) (n + 1) (.slice (some ⟨g1, 0, none⟩) len cap) L := by
  subst hl
  exact row_rd h.2.2.1 (by omega) (fun j hj => hj.2.2) h.2.2.1.lt
theorem EQ.copy {n : Nat} {W : World} {z B g1 g2 : Nat} {ES IS es is : List (Nat × Nat)} {S : Nat → Prop} {m : List (El (n + 1))} {adn : Option Addr} {capn len : Nat} {w : World} {L : List (El (n + 1))} (h : EQ W z B g1 g2 ES IS es is S m adn capn w L) (hl : L.length = len) : Rd w (fun j => j < w.heap.size) (n + 1) (.slice adn len capn) L := by
  subst hl
  have hs := h.1.size
  rcases h.2.2.2.2.1 with q | ⟨gn, rfl, q7, q8, q9, q10⟩
  · obtain rfl : L = [] := List.eq_nil_of_length_eq_zero q
    exact ⟨adn, capn, rfl, fun i x hx => by simp at hx⟩
  · exact row_rd q9 (by omega) (fun j hj => by omega) q9.lt
/-- The element k of the other list that was lent. -/
theorem EQ.other {n : Nat} {W : World} {z B g1 g2 : Nat} {ES IS es is : List (Nat × Nat)} {S : Nat → Prop} {m : List (El (n + 1))} {adn : Option Addr} {capn : Nat} {w : World} {L : List (El (n + 1))} (h : EQ W z B g1 g2 ES IS es is S m adn capn w L) {k : Nat} {x : El (n + 1)} (hx : m[k]? = some x) :
    ∃ iad icap, w.cell? ⟨g2, k * 4, none⟩ = some (.int .i64 x.1) ∧ w.cell? ⟨g2, k * 4 + 1, none⟩ = some (.string (bs x.2.1)) ∧ w.cell? ⟨g2, k * 4 + 2, none⟩ = some (.string (bs x.2.2.1)) ∧ w.cell? ⟨g2, k * 4 + 3, none⟩ = some (.slice iad x.2.2.2.length icap) ∧ RdI w (Fz (XQ W g1 z) S w) n (.slice iad x.2.2.2.length icap) x.2.2.2 := by
  have hi := (List.getElem?_eq_some_iff.1 hx).1
  obtain ⟨v0, c0, q0⟩ := h.2.2.2.1.cell (j := k * 4) (by omega)
  obtain ⟨v1, c1, q1⟩ := h.2.2.2.1.cell (j := k * 4 + 1) (by omega)
  obtain ⟨v2, c2, q2⟩ := h.2.2.2.1.cell (j := k * 4 + 2) (by omega)
  obtain ⟨v3, c3, q3⟩ := h.2.2.2.1.cell (j := k * 4 + 3) (by omega)
  have a0 := q0.1 x (by rw [show (k * 4) / 4 = k by omega]; exact hx)
  have a1 := q1.1 x (by rw [show (k * 4 + 1) / 4 = k by omega]; exact hx)
  have a2 := q2.1 x (by rw [show (k * 4 + 2) / 4 = k by omega]; exact hx)
  have a3 := q3.1 x (by rw [show (k * 4 + 3) / 4 = k by omega]; exact hx)
  rw [show (k * 4) % 4 = 0 by omega] at a0
  rw [show (k * 4 + 1) % 4 = 1 by omega] at a1
  rw [show (k * 4 + 2) % 4 = 2 by omega] at a2
  rw [show (k * 4 + 3) % 4 = 3 by omega, show (k * 4 + 3) / 4 = k by omega] at a3
  simp only at a0 a1 a2 a3
  have a3' := a3 hi
  obtain ⟨iad, icap, rfl⟩ := a3'.slice
  subst a0
  subst a1
  subst a2
  exact ⟨iad, icap, c0, c1, c2, c3, a3'⟩
end Go.Proofs.YtaokifbpakbgdaaDoor
