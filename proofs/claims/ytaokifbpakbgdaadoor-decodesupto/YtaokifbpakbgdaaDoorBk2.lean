/-
  What 'keep' has done so far, and how its steps carry it on (no program).
-/
import Derived.Test.YtaokifbpakbgdaaDoorBk1
import Derived.Test.YtaokifbpakbgdaaDoorWhole
namespace Go.Proofs.YtaokifbpakbgdaaDoor
open Go.RowKit

/-- How many lists there are. -/
def cntE {n : Nat} (f : List (El n) → Nat) (x : El (n + 1)) : Nat := 1 + (x.2.2.2.map f).sum
def cnt : (n : Nat) → List (El n) → Nat
  | 0, _ => 0
  | n + 1, l => 1 + (l.map (cntE (cnt n))).sum
theorem cnt_succ (n : Nat) (l : List (El (n + 1))) : cnt (n + 1) l = 1 + (l.map (cntE (cnt n))).sum := rfl
/-- Few elements, few items. -/
def Sz : (n : Nat) → List (El n) → Prop
  | 0, _ => True
  | n + 1, l => l.length ≤ 24 ∧ ∀ x ∈ l, x.2.2.2.length ≤ 8 ∧ ∀ s ∈ x.2.2.2, Sz n s
def KeepEnd {n : Nat} (w : World) (B : Nat) (E I : List Value) (S : Nat → Prop) (l : List (El (n + 1))) (bl : List Nat) (X : Nat → Prop) (en : Ending) (w' : World) : Prop := ∃ E' I' S', en = .returned (.tuple #[]) ∧ Bk w' B (E ++ E') (I ++ I') S' ∧ Kp (fun j => S j ∨ j ∈ bl) w w' ∧ (∀ j, S' j → S j ∨ w.heap.size ≤ j) ∧
  Wh w' (Fz (fun j => X j ∧ j ∉ bl) S' w') (E ++ E') (I ++ I') ∧ ∃ a b, E'.length = 4 * a ∧ I'.length = 4 * b ∧ a + b ≤ cnt (n + 1) l
/-- Which lists deep inside are still as they came. -/
def pnd (i kk e k : Nat) : Prop := i < e ∨ (e = i ∧ kk ≤ k)
/-- What is left aside of X while those are. -/
def Xd {n : Nat} (X : Nat → Prop) (l : List (El (n + 1))) (bd : Nat → Nat → List Nat) (pend : Nat → Nat → Prop) (j : Nat) : Prop := X j ∧ ∀ (e : Nat) x (k : Nat) s, l[e]? = some x → x.2.2.2[k]? = some s → j ∈ bd e k → pend e k
def K1 {n : Nat} (w0 : World) (B : Nat) (E I : List Value) (S0 : Nat → Prop) (v : Value) (l : List (El (n + 1))) (xs : List Value) (iv : Nat → Value) (ys : Nat → List Value) (bd : Nat → Nat → List Nat) (bl : List Nat) (X : Nat → Prop) (pend : Nat → Nat → Prop) (w : World) (E' I' : List Value) (S : Nat → Prop) : Prop :=
  Bk w B (E ++ E') (I ++ I') S ∧ Kp (fun j => S0 j ∨ j ∈ bl) w0 w ∧ (∀ j, S j → S0 j ∨ w0.heap.size ≤ j) ∧ Wh w (Fz (Xd X l bd pend) S w) (E ++ E') (I ++ I') ∧ KD w v l xs iv ys bd pend
theorem Fz.mono {X X' S : Nat → Prop} {w : World} (h : ∀ j, X' j → X j) {j : Nat} (hj : Fz X S w j) : Fz X' S w j := ⟨fun e => hj.1 (h j e), hj.2⟩
theorem Wh.mono {w : World} {F F' : Nat → Prop} {E I : List Value} (h : Wh w F E I) (hF : ∀ j, F j → F' j) : Wh w F' E I := h.up (fun j hj => ⟨rfl, hF j hj⟩)
theorem K1.weak {n : Nat} {w0 : World} {B : Nat} {E I : List Value} {S0 : Nat → Prop} {v : Value} {l : List (El (n + 1))} {xs : List Value} {iv : Nat → Value} {ys : Nat → List Value} {bd : Nat → Nat → List Nat} {bl : List Nat} {X : Nat → Prop} {pend pend' : Nat → Nat → Prop} {w : World} {E' I' : List Value} {S : Nat → Prop}
    (h : K1 w0 B E I S0 v l xs iv ys bd bl X pend w E' I' S) (hp : ∀ e k, pend' e k → pend e k) : K1 w0 B E I S0 v l xs iv ys bd bl X pend' w E' I' S := by
  obtain ⟨h1, h2, h3, h4, h5⟩ := h
  exact ⟨h1, h2, h3, h4.mono (fun j hj => hj.mono (fun j hj => ⟨hj.1, fun e x k s a b c => hp e k (hj.2 e x k s a b c)⟩)), h5.turn hp (fun _ _ => rfl) (fun _ _ _ _ _ => rfl) (fun _ _ _ _ _ _ _ _ _ => rfl)⟩
/-- A list deep inside was kept. -/
theorem K1.sub {n : Nat} {w0 : World} {B : Nat} {E I : List Value} {S0 : Nat → Prop} {v : Value} {l : List (El (n + 1 + 1))} {xs : List Value} {iv : Nat → Value} {ys : Nat → List Value} {bd : Nat → Nat → List Nat} {bl : List Nat} {X : Nat → Prop} {w w' : World} {E' I' : List Value} {S : Nat → Prop} {i kk : Nat} {x : El (n + 1 + 1)} {s : List (El (n + 1))}
    (J : KJ v l iv bd bl) (hbl : ∀ j ∈ bl, ¬ S0 j ∧ j < w0.heap.size) (h : K1 w0 B E I S0 v l xs iv ys bd bl X (pnd i kk) w E' I' S) (hx : l[i]? = some x) (hs : x.2.2.2[kk]? = some s) {en : Ending} (hk : KeepEnd w B (E ++ E') (I ++ I') S s (bd i kk) (Xd X l bd (pnd i kk)) en w') :
    ∃ E2 I2 S2, en = .returned (.tuple #[]) ∧ K1 w0 B E I S0 v l xs iv ys bd bl X (pnd i (kk + 1)) w' (E' ++ E2) (I' ++ I2) S2 ∧ ∃ a b, E2.length = 4 * a ∧ I2.length = 4 * b ∧ a + b ≤ cnt (n + 1) s := by
  obtain ⟨h1, h2, h3, h4, h5⟩ := h
  obtain ⟨E2, I2, S2, he, k1, k2, k3, k4, k5⟩ := hk
  have hz := h2.size
  have hdeep := (J.deep i x kk s hx hs).2
  have hS : ∀ j ∈ bl, ¬ S j := fun j hj e => by
    rcases h3 j e with e | e
    · exact (hbl j hj).1 e
    · have := (hbl j hj).2; omega
  have same : ∀ j ∈ bl, j ∉ bd i kk → w'.heap[j]? = w.heap[j]? := fun j hj hn => k2.block (by have := (hbl j hj).2; omega) (by rintro (e | e); (· exact hS j hj e); exact hn e)
  refine ⟨E2, I2, S2, he, ⟨by rw [← List.append_assoc, ← List.append_assoc]; exact k1, ?_, fun j hj => ?_, ?_, ?_⟩, k5⟩
  · exact h2.trans k2 (fun j hj => by
      rcases hj with e | e
      · rcases h3 j e with e | e
        · exact Or.inl (Or.inl e)
        · exact Or.inr e
      · exact Or.inl (Or.inr (hdeep j e).1))
  · rcases k3 j hj with e | e
    · exact h3 j e
    · exact Or.inr (Nat.le_trans hz e)
  · rw [← List.append_assoc, ← List.append_assoc]
    refine k4.mono (fun j hj => hj.mono (fun j hj => ⟨⟨hj.1, fun e x' k s' a b c => ?_⟩, fun hm => ?_⟩))
    · rcases hj.2 e x' k s' a b c with q | ⟨q1, q2⟩
      · exact Or.inl q
      · exact Or.inr ⟨q1, by omega⟩
    · rcases hj.2 i x kk s hx hs hm with q | ⟨_, q2⟩ <;> omega
  · refine h5.turn (fun e k hp => ?_) (fun j hj => same j (J.top j hj) (fun hm => (hdeep j hm).2.1 hj)) (fun e x' hx' j hj => same j (J.it e x' hx' j hj).1 (fun hm => (hdeep j hm).2.2 e x' hx' hj)) (fun e x' k s' hx' hs' hp j hj => same j ((J.deep e x' k s' hx' hs').2 j hj).1 (fun hm => ?_))
    · rcases hp with q | ⟨q1, q2⟩
      · exact Or.inl q
      · exact Or.inr ⟨q1, by omega⟩
    · refine J.deeps i x kk s e x' k s' hx hs hx' hs' (fun q => ?_) j hm hj
      obtain ⟨rfl, rfl⟩ := q
      rcases hp with q | ⟨_, q2⟩ <;> omega
end Go.Proofs.YtaokifbpakbgdaaDoor
