/-
  A list that came out, taken apart: its row, the rows of its items, the lists deep inside; each block belongs to one of them alone (no program).
-/
import Derived.Test.YtaokifbpakbgdaaDoorBk0
import Derived.Test.YtaokifbpakbgdaaDoorRec4
namespace Go.Proofs.YtaokifbpakbgdaaDoor
open Go.RowKit

theorem Ls.funs {α : Type} {k : Nat} {R : List Value → α → List Nat → Prop} : ∀ {l : List α} {xs : List Value} {bs : List Nat}, Ls k R xs l bs → bs.Nodup → ∃ (c : Nat → List Value) (b : Nat → List Nat),
    (∀ (i : Nat) x, l[i]? = some x → R (c i) x (b i) ∧ (c i).length = k ∧ (∀ (t : Nat) u, (c i)[t]? = some u → xs[k * i + t]? = some u) ∧ (b i).Nodup) ∧ (∀ i, ∀ j ∈ b i, j ∈ bs) ∧ ∀ i i', i ≠ i' → ∀ j ∈ b i, j ∉ b i'
  | [], _, _, _, _ => ⟨fun _ => [], fun _ => [], fun i x hx => by simp at hx, (fun _ j hj => nomatch hj), (fun _ _ _ j hj => nomatch hj)⟩
  | x :: l, xs, bs, h, hn => by
    obtain ⟨d, ys, b0, cs, rfl, e2, h1, h2, rfl⟩ := h
    obtain ⟨n1, n2, n3⟩ := List.nodup_append.1 hn
    obtain ⟨c, b, f1, f2, f3⟩ := h2.funs n2
    refine ⟨fun i => match i with | 0 => d | i + 1 => c i, fun i => match i with | 0 => b0 | i + 1 => b i, fun i y hy => ?_, fun i j hj => ?_, fun i i' hne j hj hj' => ?_⟩
    · cases i with
      | zero =>
        simp only [List.getElem?_cons_zero, Option.some.injEq] at hy
        subst hy
        refine ⟨h1, e2, fun t u hu => ?_, n1⟩
        have := (List.getElem?_eq_some_iff.1 hu).1
        rw [Nat.mul_zero, Nat.zero_add, List.getElem?_append_left this]
        exact hu
      | succ i =>
        simp only [List.getElem?_cons_succ] at hy
        obtain ⟨g1, g2, g3, g4⟩ := f1 i y hy
        refine ⟨g1, g2, fun t u hu => ?_, g4⟩
        rw [List.getElem?_append_right (by rw [e2, Nat.mul_succ]; omega), e2, show k * (i + 1) + t - k = k * i + t by rw [Nat.mul_succ]; omega]
        exact g3 t u hu
    · cases i with
      | zero => exact List.mem_append_left _ hj
      | succ i => exact List.mem_append_right _ (f2 i j hj)
    · cases i with
      | zero =>
        cases i' with
        | zero => exact hne rfl
        | succ i' => exact n3 j hj j (f2 i' j hj') rfl
      | succ i =>
        cases i' with
        | zero => exact n3 j hj' j (f2 i j hj) rfl
        | succ i' => exact f3 i i' (fun e => hne (by rw [e])) j hj hj'
/-- The list, apart: pend: which of the lists deep inside are still as they came. -/
def KD {n : Nat} (w : World) (v : Value) (l : List (El (n + 1))) (xs : List Value) (iv : Nat → Value) (ys : Nat → List Value) (bd : Nat → Nat → List Nat) (pend : Nat → Nat → Prop) : Prop :=
  w.ownsRow 0 37 4 v l.length xs ∧ ∀ (e : Nat) x, l[e]? = some x → xs[4 * e + 3]? = some (iv e) ∧ w.ownsRow 0 52 1 (iv e) x.2.2.2.length (ys e) ∧
    ∀ (k : Nat) s, x.2.2.2[k]? = some s → ∃ sv, (ys e)[k]? = some sv ∧ (∃ ad len cap, sv = .slice ad len cap) ∧ (pend e k → Ow w n sv s (bd e k))
/-- Each block belongs to one of them alone. -/
structure KJ {n : Nat} (v : Value) (l : List (El (n + 1))) (iv : Nat → Value) (bd : Nat → Nat → List Nat) (bl : List Nat) : Prop where
  top : ∀ j, v.ownBlock = some j → j ∈ bl
  it : ∀ (e : Nat) x, l[e]? = some x → ∀ j, (iv e).ownBlock = some j → j ∈ bl ∧ v.ownBlock ≠ some j
  its : ∀ (e e' : Nat) x x', l[e]? = some x → l[e']? = some x' → e ≠ e' → ∀ j, (iv e).ownBlock = some j → (iv e').ownBlock ≠ some j
  deep : ∀ (e : Nat) x (k : Nat) s, l[e]? = some x → x.2.2.2[k]? = some s → (bd e k).Nodup ∧ ∀ j ∈ bd e k, j ∈ bl ∧ v.ownBlock ≠ some j ∧ ∀ (e' : Nat) x', l[e']? = some x' → (iv e').ownBlock ≠ some j
  deeps : ∀ (e : Nat) x (k : Nat) s (e' : Nat) x' (k' : Nat) s', l[e]? = some x → x.2.2.2[k]? = some s → l[e']? = some x' → x'.2.2.2[k']? = some s' → ¬ (e = e' ∧ k = k') → ∀ j ∈ bd e k, j ∉ bd e' k'
theorem mem_own {v : Value} {j : Nat} : j ∈ v.ownBlock.toList ↔ v.ownBlock = some j := by simp
theorem Ow.apart {n : Nat} {w : World} {v : Value} {l : List (El (n + 1))} {bl : List Nat} (h : Ow w (n + 1) v l bl) (hn : bl.Nodup) : ∃ xs iv ys bd, KD w v l xs iv ys bd (fun _ _ => True) ∧ KJ v l iv bd bl := by
  rw [Ow_eq] at h
  obtain ⟨xs, cs, hown, hls, rfl⟩ := h
  obtain ⟨n1, n2, n3⟩ := List.nodup_append.1 hn
  obtain ⟨c, b, f1, f2, f3⟩ := hls.funs n2
  have key : ∀ e, ∃ t : Value × List Value × (Nat → List Nat), ∀ x, l[e]? = some x → c e = [.int .i64 x.1, .string (bs x.2.1), .string (bs x.2.2.1), t.1] ∧ w.ownsRow 0 52 1 t.1 x.2.2.2.length t.2.1 ∧
      (∀ j, t.1.ownBlock = some j → j ∈ b e) ∧ (∀ (k : Nat) s, x.2.2.2[k]? = some s → ∃ sv, t.2.1[k]? = some sv ∧ Ow w n sv s (t.2.2 k)) ∧ (∀ k, ∀ j ∈ t.2.2 k, j ∈ b e ∧ t.1.ownBlock ≠ some j) ∧ (∀ (k : Nat) s, x.2.2.2[k]? = some s → (t.2.2 k).Nodup) ∧ ∀ k k', k ≠ k' → ∀ j ∈ t.2.2 k, j ∉ t.2.2 k' := by
    intro e
    cases hx : l[e]? with
    | none => exact ⟨(.bool false, [], fun _ => []), fun x h => nomatch h⟩
    | some x =>
      obtain ⟨⟨iv, ec, ys, ds, ho, hl, hb⟩, _, _, hnb⟩ := f1 e x hx
      rw [hb] at hnb
      obtain ⟨m1, m2, m3⟩ := List.nodup_append.1 hnb
      obtain ⟨c2, b2, g1, g2, g3⟩ := hl.funs m2
      refine ⟨(iv, ys, b2), fun x' hx' => ?_⟩
      obtain rfl := Option.some.inj hx'
      refine ⟨ec, ho, fun j hj => by rw [hb]; exact List.mem_append_left _ (mem_own.2 hj), fun k s hs => ?_, fun k j hj => ⟨by rw [hb]; exact List.mem_append_right _ (g2 k j hj), fun e => m3 j (mem_own.2 e) j (g2 k j hj) rfl⟩, fun k s hs => (g1 k s hs).2.2.2, g3⟩
      obtain ⟨⟨sv, e1, e2⟩, _, e4, _⟩ := g1 k s hs
      have := e4 0 sv (by rw [e1]; rfl)
      rw [Nat.one_mul, Nat.add_zero] at this
      exact ⟨sv, this, e2⟩
  obtain ⟨t, ht⟩ := Classical.axiomOfChoice key
  refine ⟨xs, fun e => (t e).1, fun e => (t e).2.1, fun e => (t e).2.2, ⟨hown, fun e x hx => ?_⟩, ?_⟩
  · obtain ⟨a1, a2, _, a4, _⟩ := ht e x hx
    obtain ⟨_, _, a6, _⟩ := f1 e x hx
    refine ⟨a6 3 _ (by rw [a1]; rfl), a2, fun k s hs => ?_⟩
    obtain ⟨sv, b1, b2⟩ := a4 k s hs
    obtain ⟨ad, cap, e⟩ := b2.slice
    exact ⟨sv, b1, ⟨ad, _, cap, e⟩, fun _ => b2⟩
  · refine ⟨fun j hj => List.mem_append_left _ (mem_own.2 hj), fun e x hx j hj => ?_, fun e e' x x' hx hx' hne j hj hj' => ?_, fun e x k s hx hs => ?_, fun e x k s e' x' k' s' hx hs hx' hs' hne j hj hj' => ?_⟩
    · have h1 := (ht e x hx).2.2.1 j hj
      have h2 := f2 e j h1
      exact ⟨List.mem_append_right _ h2, fun e => n3 j (mem_own.2 e) j h2 rfl⟩
    · exact f3 e e' hne j ((ht e x hx).2.2.1 j hj) ((ht e' x' hx').2.2.1 j hj')
    · obtain ⟨_, _, _, _, a5, a6, _⟩ := ht e x hx
      refine ⟨a6 k s hs, fun j hj => ?_⟩
      obtain ⟨h1, h2⟩ := a5 k j hj
      have h3 := f2 e j h1
      refine ⟨List.mem_append_right _ h3, fun e => n3 j (mem_own.2 e) j h3 rfl, fun e' x' hx' hj' => ?_⟩
      by_cases he : e' = e
      · subst he
        exact h2 hj'
      · exact f3 e e' (fun h => he h.symm) j h1 ((ht e' x' hx').2.2.1 j hj')
    · obtain ⟨_, _, _, _, a5, _, a7⟩ := ht e x hx
      by_cases he : e = e'
      · subst he
        exact a7 k k' (fun h => hne ⟨rfl, h⟩) j hj hj'
      · exact f3 e e' he j (a5 k j hj).1 ((ht e' x' hx').2.2.2.2.1 k' j hj').1
/-- What has not turned reads on. -/
theorem KD.turn {n : Nat} {w w' : World} {v : Value} {l : List (El (n + 1))} {xs : List Value} {iv : Nat → Value} {ys : Nat → List Value} {bd : Nat → Nat → List Nat} {pend pend' : Nat → Nat → Prop} (h : KD w v l xs iv ys bd pend) (hp : ∀ e k, pend' e k → pend e k)
    (ht : ∀ j, v.ownBlock = some j → w'.heap[j]? = w.heap[j]?) (hi : ∀ (e : Nat) x, l[e]? = some x → ∀ j, (iv e).ownBlock = some j → w'.heap[j]? = w.heap[j]?)
    (hd : ∀ (e : Nat) x (k : Nat) s, l[e]? = some x → x.2.2.2[k]? = some s → pend' e k → ∀ j ∈ bd e k, w'.heap[j]? = w.heap[j]?) : KD w' v l xs iv ys bd pend' := by
  refine ⟨ownsRow_keep h.1 (fun j hj => ht j (mem_own.1 hj)), fun e x hx => ?_⟩
  obtain ⟨h1, h2, h3⟩ := h.2 e x hx
  refine ⟨h1, ownsRow_keep h2 (fun j hj => hi e x hx j (mem_own.1 hj)), fun k s hs => ?_⟩
  obtain ⟨sv, g1, g2, g3⟩ := h3 k s hs
  exact ⟨sv, g1, g2, fun hp' => (g3 (hp e k hp')).keep _ _ _ _ (hd e x k s hx hs hp')⟩
/-- A cell of a row of one's own is written. -/
theorem own_set {w : World} {T : TypeId} {size g n cap j : Nat} {xs : List Value} (h : w.ownsRow 0 T size (.slice (some ⟨g, 0, none⟩) n cap) n xs) (_hj : j < n * size) (u : Value) : (w.setCell ⟨g, j, none⟩ u).ownsRow 0 T size (.slice (some ⟨g, 0, none⟩) n cap) n (xs.set j u) := by
  obtain ⟨k1, k2⟩ := h
  refine ⟨by rw [List.length_set]; exact k1, Or.inr ?_⟩
  rcases k2 with ⟨q, _⟩ | ⟨g', cap', cur, q, _, q4, q5, q6, q7, q8⟩
  · cases q
  injection q with q1 _ q3
  injection q1 with q1
  injection q1 with q1
  subst q1
  subst q3
  refine ⟨g, cap, cur.setIfInBounds j u, rfl, Nat.zero_le _, set_block q4 u, q5, q6, by simpa using q7, ?_⟩
  rw [Array.toList_setIfInBounds, List.take_set, q8]
theorem own_free {w : World} {T : TypeId} {size g n cap : Nat} {xs : List Value} (h : w.ownsRow 0 T size (.slice (some ⟨g, 0, none⟩) n cap) n xs) (j : Nat) : w.frozen? ⟨g, j, none⟩ = false := by
  rcases h.2 with ⟨q, _⟩ | ⟨g', cap', cur, q, _, q4, _⟩
  · cases q
  injection q with q1 _ q3
  injection q1 with q1
  injection q1 with q1
  subst q1
  simp [World.frozen?, q4]
/-- An older list that is the head of a newer one. -/
theorem own_chain {w1 w2 : World} {T : TypeId} {k : Nat} {v v1 : Value} {n n1 : Nat} {xs ys : List Value} (hk : 0 < k) (h1 : w1.ownsRow 0 T k v n xs) (h2 : w1.ownsRow 0 T k v1 n1 (xs ++ ys)) (h3 : w2.ownsRow 0 T k v1 n1 (xs ++ ys)) (hg : ∀ j, j < w1.heap.size → some j ≠ v1.ownBlock → w2.heap[j]? = w1.heap[j]?) : w2.ownsRow 0 T k v n xs := by
  by_cases hb : ∃ g, v.ownBlock = some g ∧ v1.ownBlock = some g
  · obtain ⟨g, e1, e2⟩ := hb
    have hl := h1.1
    have hl1 := h2.1
    refine ⟨hl, Or.inr ?_⟩
    rcases h1.2 with ⟨rfl, _⟩ | ⟨g1, cap, cur, rfl, _, a4, a5, a6, a7, a8⟩
    · simp [Value.ownBlock] at e1
    rcases h2.2 with ⟨rfl, _⟩ | ⟨g2, cap2, cur2, rfl, _, b4, b5, b6, b7, b8⟩
    · simp [Value.ownBlock] at e2
    obtain rfl : g1 = g := by simpa [Value.ownBlock] using e1
    obtain rfl : g2 = g1 := by simpa [Value.ownBlock] using e2
    rw [a4] at b4
    injection b4 with b4
    injection b4 with b4
    subst b4
    have hc : cap = cap2 := Nat.eq_of_mul_eq_mul_right hk (a7.symm.trans b7)
    subst hc
    rcases h3.2 with ⟨q, _⟩ | ⟨g3, cap3, cur3, q, _, c4, c5, c6, c7, c8⟩
    · cases q
    injection q with q1 _ q3
    injection q1 with q1
    injection q1 with q1
    subst q1
    subst q3
    refine ⟨g2, cap, cur3, rfl, Nat.zero_le _, c4, a5, a6, c7, ?_⟩
    have hnn : n * k ≤ n1 * k := by rw [← hl, ← hl1, List.length_append]; omega
    have : (xs ++ ys).take (n * k) = xs := by rw [← hl, List.take_left]
    rw [← c8, List.take_take, Nat.min_eq_left hnn] at this
    exact this
  · exact ownsRow_keep h1 (fun j hj => hg j (ownsRow_lt h1 j hj) (fun e => hb ⟨j, mem_own.1 hj, e.symm⟩))
end Go.Proofs.YtaokifbpakbgdaaDoor
