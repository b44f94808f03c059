/-
  What 'keep' has done when the lists deep inside are written full: the rows of items, one after the other (no program).
-/
import Derived.Test.YtaokifbpakbgdaaDoorBk2
namespace Go.Proofs.YtaokifbpakbgdaaDoor
open Go.RowKit

/-- What is left aside of X when the rows of the first i elements' items are written full. -/
def Xi {n : Nat} (X : Nat → Prop) (l : List (El (n + 1))) (bd : Nat → Nat → List Nat) (iv : Nat → Value) (i : Nat) (j : Nat) : Prop :=
  X j ∧ (∀ (e : Nat) x (k : Nat) s, l[e]? = some x → x.2.2.2[k]? = some s → j ∉ bd e k) ∧ ∀ (e : Nat) x, l[e]? = some x → (iv e).ownBlock = some j → i ≤ e
def K2 {n : Nat} (w0 : World) (B : Nat) (E I : List Value) (S0 : Nat → Prop) (v : Value) (l : List (El (n + 1))) (xs : List Value) (iv : Nat → Value) (ys : Nat → List Value) (bl : List Nat) (XX : Nat → Prop) (P : Nat → Prop) (w : World) (E' I' : List Value) (S : Nat → Prop) : Prop :=
  Bk w B (E ++ E') (I ++ I') S ∧ Kp (fun j => S0 j ∨ j ∈ bl) w0 w ∧ (∀ j, S j → S0 j ∨ w0.heap.size ≤ j) ∧ Wh w (Fz XX S w) (E ++ E') (I ++ I') ∧ w.ownsRow 0 37 4 v l.length xs ∧ ∀ (e : Nat) x, l[e]? = some x → P e → xs[4 * e + 3]? = some (iv e) ∧ w.ownsRow 0 52 1 (iv e) x.2.2.2.length (ys e)
theorem K1.rows {n : Nat} {w0 : World} {B : Nat} {E I : List Value} {S0 : Nat → Prop} {v : Value} {l : List (El (n + 1))} {xs : List Value} {iv : Nat → Value} {ys : Nat → List Value} {bd : Nat → Nat → List Nat} {bl : List Nat} {X : Nat → Prop} {pend : Nat → Nat → Prop} {w : World} {E' I' : List Value} {S : Nat → Prop}
    (h : K1 w0 B E I S0 v l xs iv ys bd bl X pend w E' I' S) : K2 w0 B E I S0 v l xs iv ys bl (Xi X l bd iv 0) (fun e => 0 ≤ e) w E' I' S := by
  obtain ⟨h1, h2, h3, h4, h5⟩ := h
  refine ⟨h1, h2, h3, h4.mono (fun j hj => hj.mono (fun j hj => ⟨hj.1, fun e x k s a b c => absurd c (hj.2.1 e x k s a b)⟩)), h5.1, fun e x hx _ => ⟨(h5.2 e x hx).1, (h5.2 e x hx).2.1⟩⟩
theorem K2.weak {n : Nat} {w0 : World} {B : Nat} {E I : List Value} {S0 : Nat → Prop} {v : Value} {l : List (El (n + 1))} {xs : List Value} {iv : Nat → Value} {ys : Nat → List Value} {bl : List Nat} {XX P P' : Nat → Prop} {w : World} {E' I' : List Value} {S : Nat → Prop}
    (h : K2 w0 B E I S0 v l xs iv ys bl XX P w E' I' S) (hp : ∀ e, P' e → P e) : K2 w0 B E I S0 v l xs iv ys bl XX P' w E' I' S :=
  ⟨h.1, h.2.1, h.2.2.1, h.2.2.2.1, h.2.2.2.2.1, fun e x hx he => h.2.2.2.2.2 e x hx (hp e he)⟩
/-- Only one block of those that are left aside has turned, and new ones. -/
theorem K2.turn {n : Nat} {w0 : World} {B : Nat} {E I : List Value} {S0 : Nat → Prop} {v : Value} {l : List (El (n + 1))} {xs : List Value} {iv : Nat → Value} {ys : Nat → List Value} {bl : List Nat} {XX P : Nat → Prop} {w w' : World} {E' I' : List Value} {S D : Nat → Prop}
    (h : K2 w0 B E I S0 v l xs iv ys bl XX P w E' I' S) (k : Kp D w w') (hD : ∀ j, D j → j ∈ bl ∧ XX j ∧ ¬ S j ∧ v.ownBlock ≠ some j ∧ ∀ (e : Nat) x, l[e]? = some x → P e → (iv e).ownBlock ≠ some j) : K2 w0 B E I S0 v l xs iv ys bl XX P w' E' I' S := by
  obtain ⟨h1, h2, h3, h4, h5, h6⟩ := h
  refine ⟨h1.keep (fun j hj => k.block (h1.lt hj) (fun e => (hD j e).2.2.1 hj)), h2.trans k (fun j hj => Or.inl (Or.inr (hD j hj).1)), h3, h4.up (fun j hj => ⟨k.block hj.2.2 (fun e => hj.1 (hD j e).2.1), hj.1, hj.2.1, Nat.lt_of_lt_of_le hj.2.2 k.size⟩), ownsRow_keep h5 (fun j hj => k.block (ownsRow_lt h5 j hj) (fun e => (hD j e).2.2.2.1 (mem_own.1 hj))), fun e x hx he => ?_⟩
  obtain ⟨g1, g2⟩ := h6 e x hx he
  exact ⟨g1, ownsRow_keep g2 (fun j hj => k.block (ownsRow_lt g2 j hj) (fun q => (hD j q).2.2.2.2 e x hx he (mem_own.1 hj)))⟩
theorem K2.below {n : Nat} {w0 : World} {B : Nat} {E I : List Value} {S0 : Nat → Prop} {v : Value} {l : List (El (n + 1))} {xs : List Value} {iv : Nat → Value} {ys : Nat → List Value} {bl : List Nat} {XX P : Nat → Prop} {w w' : World} {E' I' : List Value} {S : Nat → Prop}
    (h : K2 w0 B E I S0 v l xs iv ys bl XX P w E' I' S) (k : Below w.heap.size w w') : K2 w0 B E I S0 v l xs iv ys bl XX P w' E' I' S := h.turn (Kp.of_below (S := fun _ => False) k) (fun _ h => h.elim)
/-- The marks in a row of items: none of them is a block of X, or of the book. -/
def Mk (X S : Nat → Prop) (h : Nat) : Prop := ¬ X h ∧ ¬ S h
/-- A mark lies still while a row of items turns. -/
theorem Bad1.still {k : Int} {w w' : World} {h : Nat} {D : Nat → Prop} (hb : Bad1 k w h) (hk : Kp D w w') (hD : ∀ g, D g → ∃ cur, w.heap[g]? = some (.cells cur 52 (0, 0))) : Bad1 k w' h := by
  refine hb.keep (hk.block (lt_of_block hb) (fun e => ?_))
  obtain ⟨cur, hc⟩ := hD h e
  rw [Bad1, hc] at hb
  simp at hb
theorem badJ.still {k : Int} {w w' : World} {F D : Nat → Prop} {zs : List Value} (h : badJ w F k zs) (hk : Kp D w w') (hD : ∀ g, D g → ∃ cur, w.heap[g]? = some (.cells cur 52 (0, 0))) : badJ w' F k zs := fun y hy => by
  obtain ⟨b, h1, h2, h3⟩ := h y hy
  exact ⟨b, h1, h2, h3.still hk hD⟩
theorem own_cells {w : World} {T : TypeId} {k n g : Nat} {v : Value} {xs : List Value} (h : w.ownsRow 0 T k v n xs) (hg : v.ownBlock = some g) : ∃ cur, w.heap[g]? = some (.cells cur T (0, 0)) := by
  rcases h.2 with ⟨rfl, _⟩ | ⟨g', cap, cur, rfl, _, h4, _⟩
  · simp [Value.ownBlock] at hg
  · obtain rfl : g' = g := by simpa [Value.ownBlock] using hg
    exact ⟨cur, h4⟩
theorem kp_grown {w w1 w2 : World} {v : Value} (h1 : Below w.heap.size w w1) (hg : w1.grownBy w2 v.ownBlock) (_hv : ∀ g, v.ownBlock = some g → g < w.heap.size) : Kp (fun j => v.ownBlock = some j) w w2 := (Kp.of_below h1).grown hg (fun _ hk => Or.inl hk)
theorem moved_or {w w0 : World} {v v1 : Value} (h : Moved w v v1) (hs : w0.heap.size ≤ w.heap.size) {V : Value} (hv : ∀ j, v.ownBlock = some j → V.ownBlock = some j ∨ w0.heap.size ≤ j) : ∀ j, v1.ownBlock = some j → V.ownBlock = some j ∨ w0.heap.size ≤ j := fun j hj => by
  rcases h with e | e
  · exact hv j (by rw [← e]; exact hj)
  · exact Or.inr (Nat.le_trans hs (e j (mem_own.2 hj)))
theorem own_below {w w' : World} {T : TypeId} {k n : Nat} {v : Value} {xs : List Value} (h : w.ownsRow 0 T k v n xs) (u : Below w.heap.size w w') : w'.ownsRow 0 T k v n xs := ownsRow_keep h (fun j hj => u.block j (ownsRow_lt h j hj))
def Fr1 (w0 w : World) (T : TypeId) (k : Nat) (v v1 : Value) (n : Nat) (xs a : List Value) : Prop := w.ownsRow 0 T k v n xs ∧ w.ownsRow 0 T k v1 (n + 1) (xs ++ a) ∧ Kp (fun j => v.ownBlock = some j) w0 w ∧ ∀ j, v1.ownBlock = some j → v.ownBlock = some j ∨ w0.heap.size ≤ j
def Fr2 (w0 w : World) (T : TypeId) (k : Nat) (v v1 v2 : Value) (n : Nat) (xs a b : List Value) : Prop := Fr1 w0 w T k v v1 n xs a ∧ w.ownsRow 0 T k v2 (n + 1 + 1) (xs ++ a ++ b) ∧ ∀ j, v2.ownBlock = some j → v.ownBlock = some j ∨ w0.heap.size ≤ j
def Fr3 (w0 w : World) (T : TypeId) (k : Nat) (v v1 v2 v3 : Value) (n : Nat) (xs a b c : List Value) : Prop := Fr2 w0 w T k v v1 v2 n xs a b ∧ w.ownsRow 0 T k v3 (n + 1 + 1 + 1) (xs ++ a ++ b ++ c) ∧ ∀ j, v3.ownBlock = some j → v.ownBlock = some j ∨ w0.heap.size ≤ j
theorem Fr1.mk {w0 wa wb : World} {T : TypeId} {k n : Nat} {v v1 : Value} {xs a : List Value} (u : Below w0.heap.size w0 wa) (hg : wa.grownBy wb v.ownBlock) (hm : Moved wa v v1) (r1 : wb.ownsRow 0 T k v1 (n + 1) (xs ++ a)) (r0 : wb.ownsRow 0 T k v n xs) : Fr1 w0 wb T k v v1 n xs a :=
  ⟨r0, r1, (Kp.of_below u).grown hg (fun _ h => Or.inl h), moved_or hm u.size (fun _ h => Or.inl h)⟩
theorem Fr2.mk {w0 w wa wb : World} {T : TypeId} {k n : Nat} {v v1 v2 : Value} {xs a b : List Value} (hk : 0 < k) (f : Fr1 w0 w T k v v1 n xs a) (u : Below w.heap.size w wa) (hg : wa.grownBy wb v1.ownBlock) (hm : Moved wa v1 v2) (r2 : wb.ownsRow 0 T k v2 (n + 1 + 1) (xs ++ a ++ b)) (r1 : wb.ownsRow 0 T k v1 (n + 1) (xs ++ a)) : Fr2 w0 wb T k v v1 v2 n xs a b := by
  obtain ⟨f0, f1, fk, fb⟩ := f
  refine ⟨⟨own_chain hk (own_below f0 u) (own_below f1 u) r1 (fun j hj hn => hg.block j hj hn), r1, ?_, fb⟩, r2, moved_or hm (Nat.le_trans fk.size u.size) fb⟩
  exact (fk.trans (S' := fun _ => False) (Kp.of_below u) (fun _ h => h.elim)).grown hg (fun j h => fb j h)
theorem Fr3.mk {w0 w wa wb : World} {T : TypeId} {k n : Nat} {v v1 v2 v3 : Value} {xs a b c : List Value} (hk : 0 < k) (f : Fr2 w0 w T k v v1 v2 n xs a b) (u : Below w.heap.size w wa) (hg : wa.grownBy wb v2.ownBlock) (hm : Moved wa v2 v3) (r3 : wb.ownsRow 0 T k v3 (n + 1 + 1 + 1) (xs ++ a ++ b ++ c)) (r2 : wb.ownsRow 0 T k v2 (n + 1 + 1) (xs ++ a ++ b)) : Fr3 w0 wb T k v v1 v2 v3 n xs a b c := by
  obtain ⟨⟨f0, f1, fk, fb⟩, f2, fb2⟩ := f
  have c1 := own_chain hk (own_below f1 u) (own_below f2 u) r2 (fun j hj hn => hg.block j hj hn)
  have c0 : wb.ownsRow 0 T k v n xs := own_chain (ys := a ++ b) hk (own_below f0 u) (by rw [← List.append_assoc]; exact own_below f2 u) (by rw [← List.append_assoc]; exact r2) (fun j hj hn => hg.block j hj hn)
  refine ⟨⟨⟨c0, c1, ?_, fb⟩, r2, fb2⟩, r3, moved_or hm (Nat.le_trans fk.size u.size) fb2⟩
  exact (fk.trans (S' := fun _ => False) (Kp.of_below u) (fun _ h => h.elim)).grown hg (fun j h => fb2 j h)
theorem own_succ {w : World} {b : Nat} {T : TypeId} {k : Nat} {v : Value} {n : Nat} {xs : List Value} (h : w.ownsRow b T k v (n + 1) xs) : ∃ g cap, v = .slice (some ⟨g, 0, none⟩) (n + 1) cap := by
  rcases h.2 with ⟨_, hn⟩ | ⟨g, cap, cur, rfl, _⟩
  · omega
  · exact ⟨g, cap, rfl⟩
theorem badJ_app {w : World} {F : Nat → Prop} {q : Int} {zs : List Value} {h : Nat} (hz : badJ w F q zs) (hh : F h ∧ Bad1 q w h) : badJ w F q (zs ++ [.slice (some ⟨h, 0, none⟩) 1 1]) := fun y hy => by
  rcases List.mem_append.1 hy with hy | hy
  · exact hz y hy
  · obtain rfl := List.mem_singleton.1 hy
    exact ⟨h, hh.1, rfl, hh.2⟩
/-- The four lists of one row of items are in the book. -/
theorem K2.push {n : Nat} {w0 : World} {B : Nat} {E I : List Value} {S0 : Nat → Prop} {v : Value} {l : List (El (n + 1))} {xs : List Value} {iv : Nat → Value} {ys : Nat → List Value} {bd : Nat → Nat → List Nat} {bl : List Nat} {X : Nat → Prop} {k : Nat} {w w' : World} {E' I' Y : List Value} {S S' : Nat → Prop} {x : El (n + 1)} {q : Nat}
    (J : KJ v l iv bd bl) (hbl : ∀ j ∈ bl, ¬ S0 j ∧ X j) (hX : ∀ j, X j → j < w0.heap.size) (h : K2 w0 B E I S0 v l xs iv ys bl (Xi X l bd iv k) (fun e => k < e) w E' I' S) (hx : l[k]? = some x) (hb : Bk w' B (E ++ E') (I ++ I' ++ Y) S') (hn : Nx S w S' w')
    (hq : (I ++ I').length = 4 * q) (hY : Y.length = 4) (hrows : ∀ u ∈ Y, ∃ len zs, w.ownsRow 0 52 1 u len zs ∧ len ≤ 64 ∧ badJ w (Mk X S) (q : Int) zs ∧ ∀ j, u.ownBlock = some j → (iv k).ownBlock = some j ∨ (¬ X j ∧ ¬ S j)) :
    K2 w0 B E I S0 v l xs iv ys bl (Xi X l bd iv (k + 1)) (fun e => k + 1 ≤ e) w' E' (I' ++ Y) S' := by
  obtain ⟨h1, h2, h3, h4, h5, h6⟩ := h
  have hS : ∀ j ∈ bl, ¬ S j := fun j hj e => by
    rcases h3 j e with e | e
    · exact (hbl j hj).1 e
    · have := hX j (hbl j hj).2; omega
  have hsub : ∀ j, Xi X l bd iv (k + 1) j → Xi X l bd iv k j := fun j hj => ⟨hj.1, hj.2.1, fun e x a b => by have := hj.2.2 e x a b; omega⟩
  have hz := h2.size
  refine ⟨by rw [← List.append_assoc]; exact hb, h2.trans hn.1 (fun j hj => by rcases h3 j hj with e | e; (· exact Or.inl (Or.inl e)); exact Or.inr e), fun j hj => ?_, ?_, ownsRow_keep h5 (fun j hj => hn.1.block (ownsRow_lt h5 j hj) (hS j (J.top j (mem_own.1 hj)))), fun e x' hx' he => ?_⟩
  · rcases hn.2 j hj with e | e
    · exact h3 j e
    · exact Or.inr (Nat.le_trans hz e)
  · rw [← List.append_assoc]
    refine Wh.addI (e := q) (h4.up (fun j hj => ⟨hn.1.block hj.2.2 hj.2.1, fun e => hj.1 (hsub j e), hn.out hj.2.1 hj.2.2, Nat.lt_of_lt_of_le hj.2.2 hn.1.size⟩)) hq hY (fun u hu => ?_)
    obtain ⟨len, zs, r1, r2, r3, r4⟩ := hrows u hu
    have hnS : ∀ j, u.ownBlock = some j → ¬ S j := fun j hj => by
      rcases r4 j hj with e | e
      · exact hS j (J.it k x hx j e).1
      · exact e.2
    refine badI_own (ownsRow_keep r1 (fun j hj => hn.1.block (ownsRow_lt r1 j hj) (hnS j (mem_own.1 hj)))) (fun y hy => ?_) r2 (fun g hg => ⟨fun e => ?_, hn.out (hnS g hg) (ownsRow_lt r1 g (mem_own.2 hg)), Nat.lt_of_lt_of_le (ownsRow_lt r1 g (mem_own.2 hg)) hn.1.size⟩)
    · obtain ⟨b, m1, m2, m3⟩ := r3 y hy
      exact ⟨b, ⟨fun e => m1.1 e.1, hn.out m1.2 (lt_of_block m3), Nat.lt_of_lt_of_le (lt_of_block m3) hn.1.size⟩, m2, m3.keep (hn.1.block (lt_of_block m3) m1.2)⟩
    · rcases r4 g hg with q' | q'
      · have := e.2.2 k x hx q'; omega
      · exact q'.1 e.1
  · obtain ⟨g1, g2⟩ := h6 e x' hx' (by omega)
    exact ⟨g1, ownsRow_keep g2 (fun j hj => hn.1.block (ownsRow_lt g2 j hj) (hS j (J.it e x' hx' j (mem_own.1 hj)).1))⟩
/-- The list itself is written full at the end. -/
def K3 (w0 : World) (B : Nat) (E I : List Value) (S0 : Nat → Prop) (bl : List Nat) (XX : Nat → Prop) (w : World) (E' I' : List Value) (S : Nat → Prop) : Prop :=
  Bk w B (E ++ E') (I ++ I') S ∧ Kp (fun j => S0 j ∨ j ∈ bl) w0 w ∧ (∀ j, S j → S0 j ∨ w0.heap.size ≤ j) ∧ Wh w (Fz XX S w) (E ++ E') (I ++ I')
theorem K3.turn {w0 : World} {B : Nat} {E I : List Value} {S0 : Nat → Prop} {bl : List Nat} {XX : Nat → Prop} {w w' : World} {E' I' : List Value} {S D : Nat → Prop} (h : K3 w0 B E I S0 bl XX w E' I' S) (k : Kp D w w') (hD : ∀ j, D j → j ∈ bl ∧ XX j ∧ ¬ S j) : K3 w0 B E I S0 bl XX w' E' I' S := by
  obtain ⟨h1, h2, h3, h4⟩ := h
  exact ⟨h1.keep (fun j hj => k.block (h1.lt hj) (fun e => (hD j e).2.2 hj)), h2.trans k (fun j hj => Or.inl (Or.inr (hD j hj).1)), h3, h4.up (fun j hj => ⟨k.block hj.2.2 (fun e => hj.1 (hD j e).2.1), hj.1, hj.2.1, Nat.lt_of_lt_of_le hj.2.2 k.size⟩)⟩
theorem K3.below {w0 : World} {B : Nat} {E I : List Value} {S0 : Nat → Prop} {bl : List Nat} {XX : Nat → Prop} {w w' : World} {E' I' : List Value} {S : Nat → Prop} (h : K3 w0 B E I S0 bl XX w E' I' S) (k : Below w.heap.size w w') : K3 w0 B E I S0 bl XX w' E' I' S := h.turn (Kp.of_below (S := fun _ => False) k) (fun _ h => h.elim)
theorem KJ.own {n : Nat} {v : Value} {l : List (El (n + 1))} {iv : Nat → Value} {bd : Nat → Nat → List Nat} {bl : List Nat} {X S0 S : Nat → Prop} {w0 : World} (J : KJ v l iv bd bl) (hbl : ∀ j ∈ bl, ¬ S0 j ∧ X j) (hX : ∀ j, X j → j < w0.heap.size) (hS : ∀ j, S j → S0 j ∨ w0.heap.size ≤ j) {j : Nat} (hj : v.ownBlock = some j) :
    j ∈ bl ∧ Xi X l bd iv l.length j ∧ ¬ S j := by
  have h1 := J.top j hj
  refine ⟨h1, ⟨(hbl j h1).2, fun e x' k' s a b c => ((J.deep e x' k' s a b).2 j c).2.1 hj, fun e x' a b => absurd hj (J.it e x' a j b).2⟩, fun e => ?_⟩
  rcases hS j e with q | q
  · exact (hbl j h1).1 q
  · have := hX j (hbl j h1).2; omega
theorem K3.push {n : Nat} {w0 : World} {B : Nat} {E I : List Value} {S0 : Nat → Prop} {v : Value} {l : List (El (n + 1))} {iv : Nat → Value} {bd : Nat → Nat → List Nat} {bl : List Nat} {X : Nat → Prop} {w w' : World} {E' I' Y : List Value} {S S' : Nat → Prop} {q : Nat}
    (J : KJ v l iv bd bl) (hbl : ∀ j ∈ bl, ¬ S0 j ∧ X j) (hX : ∀ j, X j → j < w0.heap.size) (h : K3 w0 B E I S0 bl (Xi X l bd iv l.length) w E' I' S) (hb : Bk w' B (E ++ E' ++ Y) (I ++ I') S') (hn : Nx S w S' w')
    (hq : (E ++ E').length = 4 * q) (hY : Y.length = 4) (hrows : ∀ u ∈ Y, ∃ len, w.ownsRow 0 37 4 u len (badC (q : Int) len) ∧ len ≤ 64 ∧ ∀ j, u.ownBlock = some j → v.ownBlock = some j ∨ (¬ X j ∧ ¬ S j)) :
    K3 w0 B E I S0 bl (fun j => X j ∧ j ∉ bl) w' (E' ++ Y) I' S' := by
  obtain ⟨h1, h2, h3, h4⟩ := h
  have hS : ∀ j ∈ bl, ¬ S j := fun j hj e => by
    rcases h3 j e with e | e
    · exact (hbl j hj).1 e
    · have := hX j (hbl j hj).2; omega
  have hsub : ∀ j, (X j ∧ j ∉ bl) → Xi X l bd iv l.length j := fun j hj => ⟨hj.1, fun e x k s a b c => hj.2 ((J.deep e x k s a b).2 j c).1, fun e x a b => absurd (J.it e x a j b).1 hj.2⟩
  have hz := h2.size
  refine ⟨by rw [← List.append_assoc]; exact hb, h2.trans hn.1 (fun j hj => by rcases h3 j hj with e | e; (· exact Or.inl (Or.inl e)); exact Or.inr e), fun j hj => ?_, ?_⟩
  · rcases hn.2 j hj with e | e
    · exact h3 j e
    · exact Or.inr (Nat.le_trans hz e)
  · rw [← List.append_assoc]
    refine Wh.addE (e := q) (h4.up (fun j hj => ⟨hn.1.block hj.2.2 hj.2.1, fun e => hj.1 (hsub j e), hn.out hj.2.1 hj.2.2, Nat.lt_of_lt_of_le hj.2.2 hn.1.size⟩)) hq hY (fun u hu => ?_)
    obtain ⟨len, r1, r2, r4⟩ := hrows u hu
    have hnS : ∀ j, u.ownBlock = some j → ¬ S j := fun j hj => by
      rcases r4 j hj with e | e
      · exact hS j (J.top j e)
      · exact e.2
    refine badE_own (ownsRow_keep r1 (fun j hj => hn.1.block (ownsRow_lt r1 j hj) (hnS j (mem_own.1 hj)))) r2 (fun g hg => ⟨fun e => ?_, hn.out (hnS g hg) (ownsRow_lt r1 g (mem_own.2 hg)), Nat.lt_of_lt_of_le (ownsRow_lt r1 g (mem_own.2 hg)) hn.1.size⟩)
    rcases r4 g hg with q' | q'
    · exact e.2 (J.top g q')
    · exact q'.1 e.1
/-- The row of an element's items is one of those that are left aside. -/
theorem KJ.row {n : Nat} {v : Value} {l : List (El (n + 1))} {iv : Nat → Value} {bd : Nat → Nat → List Nat} {bl : List Nat} {X S0 S : Nat → Prop} {w0 : World} (J : KJ v l iv bd bl) (hbl : ∀ j ∈ bl, ¬ S0 j ∧ X j) (hX : ∀ j, X j → j < w0.heap.size) (hS : ∀ j, S j → S0 j ∨ w0.heap.size ≤ j) {k : Nat} {x : El (n + 1)} (hx : l[k]? = some x) {j : Nat} (hj : (iv k).ownBlock = some j) :
    j ∈ bl ∧ Xi X l bd iv k j ∧ ¬ S j ∧ v.ownBlock ≠ some j ∧ ∀ (e : Nat) x, l[e]? = some x → k < e → (iv e).ownBlock ≠ some j := by
  have h1 := J.it k x hx j hj
  refine ⟨h1.1, ⟨(hbl j h1.1).2, fun e x' k' s a b c => ((J.deep e x' k' s a b).2 j c).2.2 k x hx hj, fun e x' a b => ?_⟩, fun e => ?_, h1.2, fun e x' a b => J.its k e x x' hx a (by omega) j hj⟩
  · by_cases he : k = e
    · omega
    · exact absurd b (J.its k e x x' hx a he j hj)
  · rcases hS j e with q | q
    · exact (hbl j h1.1).1 q
    · have := hX j (hbl j h1.1).2; omega
end Go.Proofs.YtaokifbpakbgdaaDoor
