/-
  What the lists that were lent look like in memory: their elements, and the spare room behind them with the owner's marks (no program).
-/
import Derived.Test.YtaokifbpakbgdaaDoorCopy
import Derived.Test.YtaokifbpakbgdaaDoorWhole
namespace Go.Proofs.YtaokifbpakbgdaaDoor
open Go.RowKit

/-- The cells of the mark of the list of that number. -/
def badV (k : Int) : Nat → Value
  | 0 => .int .i64 (-1000 - k)
  | 1 => .string ⟨#[63, 63]⟩
  | 2 => .string ⟨#[]⟩
  | _ => .slice none 0 0
def Bad1 (k : Int) (w : World) (h : Nat) : Prop := w.heap[h]? = some (.cells #[badV k 0, badV k 1, badV k 2, badV k 3] 37 (0, 0))
/-- The blocks that are known to lie still: not of X, not of the rows S. -/
def Fz (X S : Nat → Prop) (w : World) (j : Nat) : Prop := ¬ X j ∧ ¬ S j ∧ j < w.heap.size
/-- They do, and are known still. -/
def Pr (X S : Nat → Prop) (w : World) (S' : Nat → Prop) (w' : World) : Prop := ∀ j, Fz X S w j → w'.heap[j]? = w.heap[j]? ∧ Fz X S' w' j
/-- The rows S may have turned, and are S' now. -/
def Nx (S : Nat → Prop) (w : World) (S' : Nat → Prop) (w' : World) : Prop := Kp S w w' ∧ ∀ j, S' j → S j ∨ w.heap.size ≤ j
theorem Nx.refl (S : Nat → Prop) (w : World) : Nx S w S w := ⟨Kp.refl _ _, fun _ h => Or.inl h⟩
theorem Nx.trans {S S1 S2 : Nat → Prop} {w w1 w2 : World} (h : Nx S w S1 w1) (k : Nx S1 w1 S2 w2) : Nx S w S2 w2 :=
  ⟨h.1.trans k.1 h.2, fun j hj => by
    rcases k.2 j hj with e | e
    · exact h.2 j e
    · exact Or.inr (Nat.le_trans h.1.size e)⟩
theorem Nx.of_below {S : Nat → Prop} {w w' : World} (h : Below w.heap.size w w') : Nx S w S w' := ⟨Kp.of_below h, fun _ h => Or.inl h⟩
theorem Nx.alloc {S : Nat → Prop} {w : World} (o : Obj) : Nx S w S (w.alloc o) := Nx.of_below (Below.alloc (Below.refl _ _) (Nat.le_refl _) o)
theorem Nx.set {S0 S : Nat → Prop} {w w' : World} (h : Nx S0 w S w') {p : Addr} (hp : w.heap.size ≤ p.block) (u : Value) : Nx S0 w S (w'.setCell p u) := ⟨h.1.setCell (Or.inr hp) u, h.2⟩
theorem Nx.pr {X S S' : Nat → Prop} {w w' : World} (h : Nx S w S' w') : Pr X S w S' w' := fun j hj =>
  ⟨h.1.block hj.2.2 hj.2.1, hj.1, fun e => by rcases h.2 j e with e | e; (· exact hj.2.1 e); have := hj.2.2; omega, Nat.lt_of_lt_of_le hj.2.2 h.1.size⟩
theorem Pr.refl (X S : Nat → Prop) (w : World) : Pr X S w S w := fun _ h => ⟨rfl, h⟩
theorem Pr.trans {X S S1 S2 : Nat → Prop} {w w1 w2 : World} (h : Pr X S w S1 w1) (k : Pr X S1 w1 S2 w2) : Pr X S w S2 w2 := fun j hj =>
  ⟨(k j (h j hj).2).1.trans (h j hj).1, (k j (h j hj).2).2⟩
theorem Pr.set {X S : Nat → Prop} (w : World) {p : Addr} (hp : X p.block) (u : Value) : Pr X S w S (w.setCell p u) := fun j hj =>
  ⟨Below.heap_setCell _ _ _ _ (fun e => hj.1 (by rw [e]; exact hp)), hj.1, hj.2.1, by simpa using hj.2.2⟩
theorem Pr.alloc {X S : Nat → Prop} (w : World) (o : Obj) : Pr X S w S (w.alloc o) := (Nx.alloc o).pr

theorem Bad1.cells {k : Int} {w : World} {b : Nat} (h : Bad1 k w b) :
    (w.cell? ⟨b, 0, none⟩ = some (badV k 0) ∧ w.cell? ⟨b, 1, none⟩ = some (badV k 1) ∧ w.cell? ⟨b, 2, none⟩ = some (badV k 2) ∧ w.cell? ⟨b, 3, none⟩ = some (badV k 3)) ∧
    (w.frozen? ⟨b, 0, none⟩ = false ∧ w.frozen? ⟨b, 1, none⟩ = false ∧ w.frozen? ⟨b, 2, none⟩ = false ∧ w.frozen? ⟨b, 3, none⟩ = false) := by
  unfold Bad1 at h
  simp [World.cell?, World.frozen?, h]
theorem Bad1.keep {k : Int} {w w' : World} {h : Nat} (hb : Bad1 k w h) (hk : w'.heap[h]? = w.heap[h]?) : Bad1 k w' h := hk.trans hb
/-- A list of n elements with eight places of spare room; a list of items. -/
def RmE (w : World) (g n : Nat) : Prop := HasC w g 37 (4 * (n + 8)) (fun j v => 4 * n ≤ j → v = badV 0 (j % 4))
def RmI (w : World) (F : Nat → Prop) (g n : Nat) : Prop := HasC w g 52 (n + 8) (fun j v => n ≤ j → ∃ h, F h ∧ v = .slice (some ⟨h, 0, none⟩) 1 1 ∧ Bad1 0 w h)
def Rms (X S : Nat → Prop) (w : World) (es is : List (Nat × Nat)) : Prop := (∀ p ∈ es, Fz X S w p.1 ∧ RmE w p.1 p.2) ∧ ∀ p ∈ is, Fz X S w p.1 ∧ RmI w (Fz X S w) p.1 p.2
theorem RmI.up {X S S' : Nat → Prop} {w w' : World} {g n : Nat} (h : RmI w (Fz X S w) g n) (hk : w'.heap[g]? = w.heap[g]?) (k : Pr X S w S' w') : RmI w' (Fz X S' w') g n :=
  HasC.keep h hk (fun j v _ hv hj => by
    obtain ⟨b, h1, h2, h3⟩ := hv hj
    exact ⟨b, (k b h1).2, h2, h3.keep (k b h1).1⟩)
theorem Rms.up {X S S' : Nat → Prop} {w w' : World} {es is : List (Nat × Nat)} (h : Rms X S w es is) (k : Pr X S w S' w') : Rms X S' w' es is :=
  ⟨fun p hp => ⟨(k _ (h.1 p hp).1).2, (h.1 p hp).2.keep (k _ (h.1 p hp).1).1 (fun _ _ _ h => h)⟩, fun p hp => ⟨(k _ (h.2 p hp).1).2, (h.2 p hp).2.up (k _ (h.2 p hp).1).1 k⟩⟩
theorem Rms.nil (X S : Nat → Prop) (w : World) : Rms X S w [] [] := ⟨fun _ h => (nomatch h), fun _ h => (nomatch h)⟩
theorem Rms.add {X S : Nat → Prop} {w : World} {es is es' is' : List (Nat × Nat)} (h : Rms X S w es is) (k : Rms X S w es' is') : Rms X S w (es ++ es') (is ++ is') :=
  ⟨fun p hp => by rcases List.mem_append.1 hp with hp | hp; (· exact h.1 p hp); exact k.1 p hp, fun p hp => by rcases List.mem_append.1 hp with hp | hp; (· exact h.2 p hp); exact k.2 p hp⟩
/-- With other blocks left aside. -/
theorem Rms.turn {X X' S : Nat → Prop} {w : World} {es is : List (Nat × Nat)} (h : Rms X S w es is) (hx : ∀ j, Fz X S w j → ¬ X' j) : Rms X' S w es is := by
  have hf : ∀ j, Fz X S w j → Fz X' S w j := fun j hj => ⟨hx j hj, hj.2⟩
  refine ⟨fun p hp => ⟨hf _ (h.1 p hp).1, (h.1 p hp).2⟩, fun p hp => ⟨hf _ (h.2 p hp).1, HasC.keep (h.2 p hp).2 rfl (fun j v _ hv hj => ?_)⟩⟩
  obtain ⟨b, h1, h2, h3⟩ := hv hj
  exact ⟨b, hf b h1, h2, h3⟩
/-- The cells of a list that is being copied: i elements have their own items, the places up to e behind them their marks. -/
def OutQ {n : Nat} (w : World) (F : Nat → Prop) (l : List (El (n + 1))) (i e j : Nat) (v : Value) : Prop :=
  (∀ x, l[j / 4]? = some x → match j % 4 with
    | 0 => v = .int .i64 x.1
    | 1 => v = .string (bs x.2.1)
    | 2 => v = .string (bs x.2.2.1)
    | _ => j / 4 < i → RdI w F n v x.2.2.2) ∧ (l.length ≤ j / 4 → j / 4 < e → v = badV 0 (j % 4))
theorem OutQ.up {n : Nat} {X S S' : Nat → Prop} {w w' : World} {l : List (El (n + 1))} {i e j : Nat} {v : Value} (h : OutQ w (Fz X S w) l i e j v) (k : Pr X S w S' w') : OutQ w' (Fz X S' w') l i e j v := by
  refine ⟨fun x hx => ?_, h.2⟩
  have := h.1 x hx
  have hj : j % 4 = 0 ∨ j % 4 = 1 ∨ j % 4 = 2 ∨ j % 4 = 3 := by omega
  rcases hj with e | e | e | e <;> rw [e] at this ⊢
  · exact this
  · exact this
  · exact this
  · exact fun hi => (this hi).keep (fun j hj => (k j hj).2) (fun j hj _ => (k j hj).1)
/-- The cells of a list of items that is being copied, k of them done. -/
def ItQ {n : Nat} (w : World) (F : Nat → Prop) (its : Its n) (k j : Nat) (v : Value) : Prop :=
  (∀ s, its[j]? = some s → j < k → Rd w F n v s) ∧ (its.length ≤ j → j < k → ∃ h, F h ∧ v = .slice (some ⟨h, 0, none⟩) 1 1 ∧ Bad1 0 w h)
theorem ItQ.up {n : Nat} {X S S' : Nat → Prop} {w w' : World} {its : Its n} {k j : Nat} {v : Value} (h : ItQ w (Fz X S w) its k j v) (p : Pr X S w S' w') : ItQ w' (Fz X S' w') its k j v :=
  ⟨fun s hs hj => (h.1 s hs hj).keep (fun j hj => (p j hj).2) (fun j hj _ => (p j hj).1), fun h1 h2 => by
    obtain ⟨b, g1, g2, g3⟩ := h.2 h1 h2
    exact ⟨b, (p b g1).2, g2, g3.keep (p b g1).1⟩⟩
/-- What a copied list reads as. -/
theorem out_rd {n : Nat} {w : World} {g : Nat} {F F' : Nat → Prop} {l : List (El (n + 1))} {cap : Nat} (h : HasC w g 37 (4 * (l.length + 8)) (OutQ w F l l.length (l.length + 8))) (hF : ∀ j, F j → F' j) (hg : F' g) : Rd w F' (n + 1) (.slice (some ⟨g, 0, none⟩) l.length cap) l := by
  refine ⟨some ⟨g, 0, none⟩, cap, rfl, fun i x hx => ⟨_, rfl, hg, ?_⟩⟩
  have hi := (List.getElem?_eq_some_iff.1 hx).1
  have hc : ∀ f, f < 4 → ∃ v, w.cell? ((Addr.add ⟨g, 0, none⟩ (4 * i)).add f) = some v ∧ OutQ w F l l.length (l.length + 8) (4 * i + f) v := fun f hf => by
    have := h.cell (j := 4 * i + f) (by omega)
    rw [Addr.add_lit, Addr.add_lit, Nat.zero_add]
    exact this
  obtain ⟨v0, c0, q0⟩ := hc 0 (by omega)
  obtain ⟨v1, c1, q1⟩ := hc 1 (by omega)
  obtain ⟨v2, c2, q2⟩ := hc 2 (by omega)
  obtain ⟨v3, c3, q3⟩ := hc 3 (by omega)
  have a0 := q0.1 x (by rw [show (4 * i + 0) / 4 = i by omega]; exact hx)
  have a1 := q1.1 x (by rw [show (4 * i + 1) / 4 = i by omega]; exact hx)
  have a2 := q2.1 x (by rw [show (4 * i + 2) / 4 = i by omega]; exact hx)
  have a3 := q3.1 x (by rw [show (4 * i + 3) / 4 = i by omega]; exact hx)
  rw [show (4 * i + 0) % 4 = 0 by omega] at a0
  rw [show (4 * i + 1) % 4 = 1 by omega] at a1
  rw [show (4 * i + 2) % 4 = 2 by omega] at a2
  rw [show (4 * i + 3) % 4 = 3 by omega, show (4 * i + 3) / 4 = i by omega] at a3
  simp only at a0 a1 a2 a3
  subst a0
  subst a1
  subst a2
  rw [Addr.add_zero'] at c0
  exact ⟨c0, c1, c2, v3, c3, (a3 hi).keep hF (fun _ _ _ => rfl)⟩
theorem its_rd {n : Nat} {w : World} {g : Nat} {F F' : Nat → Prop} {its : Its n} {cap : Nat} (h : HasC w g 52 (its.length + 8) (ItQ w F its (its.length + 8))) (hF : ∀ j, F j → F' j) (hg : F' g) : RdI w F' n (.slice (some ⟨g, 0, none⟩) its.length cap) its := by
  refine ⟨some ⟨g, 0, none⟩, cap, rfl, fun i s hs => ⟨_, rfl, hg, ?_⟩⟩
  have hi := (List.getElem?_eq_some_iff.1 hs).1
  obtain ⟨v, c, q⟩ := h.cell (j := i) (by omega)
  rw [Addr.add_lit, Nat.zero_add, Nat.one_mul]
  exact ⟨v, c, (q.1 s hs (by omega)).keep hF (fun _ _ _ => rfl)⟩
theorem its_rm {n : Nat} {w : World} {g : Nat} {F : Nat → Prop} {its : Its n} (h : HasC w g 52 (its.length + 8) (ItQ w F its (its.length + 8))) : RmI w F g its.length := HasC.keep h rfl (fun _ _ hj hv h => hv.2 h hj)
theorem out_rm {n : Nat} {w : World} {g : Nat} {F : Nat → Prop} {l : List (El (n + 1))} (h : HasC w g 37 (4 * (l.length + 8)) (OutQ w F l l.length (l.length + 8))) : RmE w g l.length := HasC.keep h rfl (fun _ _ _ hv _ => hv.2 (by omega) (by omega))

/-- The rows of a loan. -/
def eV (p : Nat × Nat) : Value := .slice (some ⟨p.1, 0, none⟩) (p.2 + 8) (p.2 + 8)
def nV (p : Nat × Nat) : Value := .int .i64 p.2
def lnR (v0 v1 v2 v3 : Value) (E N I C : List Value) : Rws := [(22, v0, E), (3, v1, N), (35, v2, I), (3, v3, C)]
theorem ln_cells {w : World} {B : Nat} {v0 v1 v2 v3 : Value} {E N I C : List Value} (h : RowsOf w B 29 (lnR v0 v1 v2 v3 E N I C)) :
    (w.cell? ⟨B, 0, none⟩ = some v0 ∧ w.cell? ⟨B, 1, none⟩ = some v1 ∧ w.cell? ⟨B, 2, none⟩ = some v2 ∧ w.cell? ⟨B, 3, none⟩ = some v3) ∧
    (w.frozen? ⟨B, 0, none⟩ = false ∧ w.frozen? ⟨B, 1, none⟩ = false ∧ w.frozen? ⟨B, 2, none⟩ = false ∧ w.frozen? ⟨B, 3, none⟩ = false) := by
  have hb := h.1
  simp only [lnR, List.map_cons, List.map_nil, List.append_nil] at hb
  simp [World.cell?, World.frozen?, hb]
theorem ln_rows {w : World} {B : Nat} {v0 v1 v2 v3 : Value} {E N I C : List Value} (h : RowsOf w B 29 (lnR v0 v1 v2 v3 E N I C)) :
    w.ownsRow 0 22 1 v0 E.length E ∧ w.ownsRow 0 3 1 v1 N.length N ∧ w.ownsRow 0 35 1 v2 I.length I ∧ w.ownsRow 0 3 1 v3 C.length C :=
  ⟨(h.2.1 (22, v0, E) (by simp [lnR])).1, (h.2.1 (3, v1, N) (by simp [lnR])).1, (h.2.1 (35, v2, I) (by simp [lnR])).1, (h.2.1 (3, v3, C) (by simp [lnR])).1⟩
def Ln4 (w : World) (B : Nat) (E N I C : List Value) (S : Nat → Prop) : Prop := ∃ v0 v1 v2 v3, RowsOf w B 29 (lnR v0 v1 v2 v3 E N I C) ∧ S = InR B (lnR v0 v1 v2 v3 E N I C)
def Ln (w : World) (B : Nat) (es is : List (Nat × Nat)) (S : Nat → Prop) : Prop := Ln4 w B (es.map eV) (es.map nV) (is.map eV) (is.map nV) S
theorem Ln4.lt {w : World} {B : Nat} {E N I C : List Value} {S : Nat → Prop} (h : Ln4 w B E N I C S) {j : Nat} (hj : S j) : j < w.heap.size := by
  obtain ⟨_, _, _, _, h, rfl⟩ := h
  exact h.lt hj
theorem Ln4.head {w : World} {B : Nat} {E N I C : List Value} {S : Nat → Prop} (h : Ln4 w B E N I C S) : S B := by
  obtain ⟨_, _, _, _, h, rfl⟩ := h
  exact Or.inl rfl
theorem Ln4.keep {w w' : World} {B : Nat} {E N I C : List Value} {S : Nat → Prop} (h : Ln4 w B E N I C S) (k : ∀ j, S j → w'.heap[j]? = w.heap[j]?) : Ln4 w' B E N I C S := by
  obtain ⟨a, b, c, d, h, rfl⟩ := h
  exact ⟨a, b, c, d, h.keep k, rfl⟩
theorem Ln4.below {w w' : World} {B : Nat} {E N I C : List Value} {S : Nat → Prop} (h : Ln4 w B E N I C S) (k : Below w.heap.size w w') : Ln4 w' B E N I C S := h.keep (fun _ hj => k.block _ (h.lt hj))
theorem Ln4.set {w : World} {B : Nat} {E N I C : List Value} {S : Nat → Prop} (h : Ln4 w B E N I C S) {p : Addr} (hp : ¬ S p.block) (u : Value) : Ln4 (w.setCell p u) B E N I C S := h.keep (fun j hj => Below.heap_setCell _ _ _ _ (fun e => hp (by rw [← e]; exact hj)))
/-- One thing more in one of the rows. -/
theorem ln_push {w w1 w2 : World} {B f : Nat} {e : TypeId} {rows : Rws} {v v' x : Value} {X : List Value} (h : RowsOf w B 29 rows) (hf : rows[f]? = some (e, v, X)) (h1 : Below w.heap.size w w1)
    (hown : w2.ownsRow 0 e 1 v' (X.length + 1) (X ++ [x])) (hg : w1.grownBy w2 v.ownBlock) (hm : Moved w1 v v') :
    RowsOf (w2.setCell ⟨B, f, none⟩ v') B 29 (rows.set f (e, v', X ++ [x])) ∧ Nx (InR B rows) w (InR B (rows.set f (e, v', X ++ [x]))) (w2.setCell ⟨B, f, none⟩ v') := by
  obtain ⟨a, b, c⟩ := h.push hf h1 hown hg hm
  exact ⟨a, b, c⟩
end Go.Proofs.YtaokifbpakbgdaaDoor
