/-
  The lists that came out, written full by their owner, in the caller's book (no program).
-/
import Derived.Test.YtaokifbpakbgdaaDoorLent1
import Derived.Test.YtaokifbpakbgdaaDoorRec
namespace Go.Proofs.YtaokifbpakbgdaaDoor
open Go.RowKit

def bkR (v0 v1 : Value) (E I : List Value) : Rws := [(22, v0, E), (35, v1, I)]
def Bk (w : World) (B : Nat) (E I : List Value) (S : Nat → Prop) : Prop := ∃ v0 v1, RowsOf w B 41 (bkR v0 v1 E I) [.int .i64 0] ∧ S = InR B (bkR v0 v1 E I)
theorem bk_cells {w : World} {B : Nat} {v0 v1 : Value} {E I : List Value} (h : RowsOf w B 41 (bkR v0 v1 E I) [.int .i64 0]) :
    (w.cell? ⟨B, 0, none⟩ = some v0 ∧ w.cell? ⟨B, 1, none⟩ = some v1) ∧ w.frozen? ⟨B, 0, none⟩ = false ∧ w.frozen? ⟨B, 1, none⟩ = false := by
  have hb := h.1
  simp only [bkR, List.map_cons, List.map_nil, List.cons_append, List.nil_append] at hb
  simp [World.cell?, World.frozen?, hb]
theorem bk_rows {w : World} {B : Nat} {v0 v1 : Value} {E I : List Value} (h : RowsOf w B 41 (bkR v0 v1 E I) [.int .i64 0]) : w.ownsRow 0 22 1 v0 E.length E ∧ w.ownsRow 0 35 1 v1 I.length I :=
  ⟨(h.2.1 (22, v0, E) (by simp [bkR])).1, (h.2.1 (35, v1, I) (by simp [bkR])).1⟩
theorem Bk.lt {w : World} {B : Nat} {E I : List Value} {S : Nat → Prop} (h : Bk w B E I S) {j : Nat} (hj : S j) : j < w.heap.size := by
  obtain ⟨_, _, h, rfl⟩ := h
  exact h.lt hj
theorem Bk.keep {w w' : World} {B : Nat} {E I : List Value} {S : Nat → Prop} (h : Bk w B E I S) (k : ∀ j, S j → w'.heap[j]? = w.heap[j]?) : Bk w' B E I S := by
  obtain ⟨a, b, h, rfl⟩ := h
  exact ⟨a, b, h.keep k, rfl⟩
theorem Bk.below {w w' : World} {B : Nat} {E I : List Value} {S : Nat → Prop} (h : Bk w B E I S) (k : Below w.heap.size w w') : Bk w' B E I S := h.keep (fun _ hj => k.block _ (h.lt hj))
theorem bk_new (w : World) : Bk (w.alloc (.cells #[.slice none 0 0, .slice none 0 0, .int .i64 0] 41)) w.heap.size [] [] (fun j => j = w.heap.size) := by
  refine ⟨.slice none 0 0, .slice none 0 0, ⟨heap_alloc_new _ _, fun r hr => ?_, fun i j ri rj b hi hj hij hb => ?_⟩, ?_⟩
  · simp only [bkR, List.mem_cons, List.not_mem_nil, or_false] at hr
    rcases hr with rfl | rfl <;> exact ⟨World.ownsRow_nil _ _ _ _, by simp [Value.ownBlock]⟩
  · have := List.mem_of_getElem? hi
    simp only [bkR, List.mem_cons, List.not_mem_nil, or_false] at this
    rcases this with rfl | rfl <;> simp [Value.ownBlock] at hb
  · funext j
    simp [InR, bkR, Value.ownBlock]
/-- Four things more in the row of that place. -/
theorem bk_push0 {w w1 w2 : World} {B : Nat} {v0 v1 v' : Value} {E I Y : List Value} (h : RowsOf w B 41 (bkR v0 v1 E I) [.int .i64 0]) (h1 : Below w.heap.size w w1)
    (hown : w2.ownsRow 0 22 1 v' (E.length + Y.length) (E ++ Y)) (hg : w1.grownBy w2 v0.ownBlock) (hm : Moved w1 v0 v') :
    ∃ S', Bk (w2.setCell ⟨B, 0, none⟩ v') B (E ++ Y) I S' ∧ Nx (InR B (bkR v0 v1 E I)) w S' (w2.setCell ⟨B, 0, none⟩ v') := by
  obtain ⟨a, b, c⟩ := h.push (f := 0) rfl h1 hown hg hm
  exact ⟨_, ⟨_, _, a, rfl⟩, b, c⟩
theorem bk_push1 {w w1 w2 : World} {B : Nat} {v0 v1 v' : Value} {E I Y : List Value} (h : RowsOf w B 41 (bkR v0 v1 E I) [.int .i64 0]) (h1 : Below w.heap.size w w1)
    (hown : w2.ownsRow 0 35 1 v' (I.length + Y.length) (I ++ Y)) (hg : w1.grownBy w2 v1.ownBlock) (hm : Moved w1 v1 v') :
    ∃ S', Bk (w2.setCell ⟨B, 1, none⟩ v') B E (I ++ Y) S' ∧ Nx (InR B (bkR v0 v1 E I)) w S' (w2.setCell ⟨B, 1, none⟩ v') := by
  obtain ⟨a, b, c⟩ := h.push (f := 1) rfl h1 hown hg hm
  exact ⟨_, ⟨_, _, a, rfl⟩, b, c⟩

/-- A list that is full of the marks of the list of that number. -/
def BadE (w : World) (F : Nat → Prop) (k : Int) (v : Value) : Prop := ∃ ad len cap, v = .slice ad len cap ∧ len ≤ 64 ∧ (0 < len → ∃ g, ad = some ⟨g, 0, none⟩ ∧ F g ∧ ∀ j, j < 4 * len → w.cell? ⟨g, j, none⟩ = some (badV k (j % 4)))
def BadI (w : World) (F : Nat → Prop) (k : Int) (v : Value) : Prop := ∃ ad len cap, v = .slice ad len cap ∧ len ≤ 64 ∧ (0 < len → ∃ g, ad = some ⟨g, 0, none⟩ ∧ F g ∧ ∀ j, j < len → ∃ h, F h ∧ w.cell? ⟨g, j, none⟩ = some (.slice (some ⟨h, 0, none⟩) 1 1) ∧ Bad1 k w h)
def Wh (w : World) (F : Nat → Prop) (E I : List Value) : Prop := (∀ (i : Nat) v, E[i]? = some v → BadE w F ((i : Int) / 4) v) ∧ ∀ (i : Nat) v, I[i]? = some v → BadI w F ((i : Int) / 4) v
theorem BadE.up {w w' : World} {F F' : Nat → Prop} {k : Int} {v : Value} (h : BadE w F k v) (u : ∀ j, F j → w'.heap[j]? = w.heap[j]? ∧ F' j) : BadE w' F' k v := by
  obtain ⟨ad, len, cap, e, hl, h⟩ := h
  refine ⟨ad, len, cap, e, hl, fun h0 => ?_⟩
  obtain ⟨g, e2, h1, h2⟩ := h h0
  exact ⟨g, e2, (u g h1).2, fun j hj => cell_keep (p := ⟨g, j, none⟩) (u g h1).1 (h2 j hj)⟩
theorem BadI.up {w w' : World} {F F' : Nat → Prop} {k : Int} {v : Value} (h : BadI w F k v) (u : ∀ j, F j → w'.heap[j]? = w.heap[j]? ∧ F' j) : BadI w' F' k v := by
  obtain ⟨ad, len, cap, e, hl, h⟩ := h
  refine ⟨ad, len, cap, e, hl, fun h0 => ?_⟩
  obtain ⟨g, e2, h1, h2⟩ := h h0
  refine ⟨g, e2, (u g h1).2, fun j hj => ?_⟩
  obtain ⟨b, h3, h4, h5⟩ := h2 j hj
  exact ⟨b, (u b h3).2, cell_keep (p := ⟨g, j, none⟩) (u g h1).1 h4, h5.keep (u b h3).1⟩
theorem Wh.up {w w' : World} {F F' : Nat → Prop} {E I : List Value} (h : Wh w F E I) (u : ∀ j, F j → w'.heap[j]? = w.heap[j]? ∧ F' j) : Wh w' F' E I := ⟨fun i v hv => (h.1 i v hv).up u, fun i v hv => (h.2 i v hv).up u⟩
theorem Wh.nil (w : World) (F : Nat → Prop) : Wh w F [] [] := ⟨fun i v hv => by simp at hv, fun i v hv => by simp at hv⟩
theorem four_at {E : List Value} {Y : List Value} {e i : Nat} {v : Value} (he : E.length = 4 * e) (hY : Y.length = 4) (hv : (E ++ Y)[i]? = some v) (hi : ¬ i < E.length) : v ∈ Y ∧ ((i : Int) / 4) = (e : Int) := by
  rw [List.getElem?_append_right (by omega)] at hv
  have := (List.getElem?_eq_some_iff.1 hv).1
  exact ⟨List.mem_of_getElem? hv, by omega⟩
theorem Wh.addE {w : World} {F : Nat → Prop} {E I Y : List Value} {e : Nat} (h : Wh w F E I) (he : E.length = 4 * e) (hY : Y.length = 4) (hb : ∀ v ∈ Y, BadE w F (e : Int) v) : Wh w F (E ++ Y) I :=
  ⟨fun i v hv => by
    by_cases hi : i < E.length
    · rw [List.getElem?_append_left hi] at hv
      exact h.1 i v hv
    · obtain ⟨h1, h2⟩ := four_at he hY hv hi
      rw [h2]
      exact hb v h1, h.2⟩
theorem Wh.addI {w : World} {F : Nat → Prop} {E I Y : List Value} {e : Nat} (h : Wh w F E I) (he : I.length = 4 * e) (hY : Y.length = 4) (hb : ∀ v ∈ Y, BadI w F (e : Int) v) : Wh w F E (I ++ Y) :=
  ⟨h.1, fun i v hv => by
    by_cases hi : i < I.length
    · rw [List.getElem?_append_left hi] at hv
      exact h.2 i v hv
    · obtain ⟨h1, h2⟩ := four_at he hY hv hi
      rw [h2]
      exact hb v h1⟩
/-- 'append' to a row of one's own: the old list reads on as it did. -/
theorem wpList_append_two {P : Program} (w : World) {ops : Array Oper} {rest : List Oper} {o : Oper} {a : Act} {Q : Exit → Act → World → Prop}
    (hg : o.guard = none) (s x : Operand) (t : TypeId) (hop : o.op = Op.call { callee := Callee.builtin Builtin.append, args := #[s, x], argTypes := #[t, t] })
    (e : TypeId) (i : TypeInfo) (z : Value) (size bytes : Nat) (h1 : P.underlying t = some (.slice e)) (h2 : P.info? e = some i) (h3 : i.zero = some z) (h4 : i.size = size) (h5 : i.bytes = bytes) (h6 : z.cells.size = size) (h7 : 0 < size)
    (v : Value) (n : Nat) (xs : List Value) (hs : a.eval s = v) (hown : w.ownsRow 0 e size v n xs)
    (ad : Addr) (m c : Nat) (news : List Value) (hx : a.eval x = .slice (some ad) m c) (hn : news.length = m * size) (hc : ∀ j u, news[j]? = some u → w.cell? (ad.add j) = some u) (h1c : ∀ u ∈ news, u.oneCell' = true)
    (b1 : n + m ≤ maxLen) (b2 : (n + m) * bytes ≤ 140737488355328)
    (hK : ∀ v' w', w'.ownsRow 0 e size v' (n + m) (xs ++ news) → w.grownBy w' v.ownBlock → Moved w v v' → w'.ownsRow 0 e size v n xs → wpList P ops Q rest (a.put o.dst v') w') :
    wpList P ops Q (o :: rest) a w := by
  have weak : ∀ {w' : World} {v' : Value} {k : Nat} {ys : List Value}, w'.ownsRow w.heap.size e size v' k ys → w'.ownsRow 0 e size v' k ys ∧ ∀ g ∈ v'.ownBlock.toList, w.heap.size ≤ g := by
    rintro w' v' k ys ⟨q1, q2⟩
    rcases q2 with ⟨rfl, q2⟩ | ⟨g, cap, cur, rfl, q2, q3⟩
    · exact ⟨⟨q1, Or.inl ⟨rfl, q2⟩⟩, fun g hg => by cases hg⟩
    · exact ⟨⟨q1, Or.inr ⟨g, cap, cur, rfl, Nat.zero_le _, q3⟩⟩, fun j hj => by simp [Value.ownBlock] at hj; omega⟩
  obtain ⟨k1, k2⟩ := id hown
  rcases k2 with ⟨rfl, rfl⟩ | ⟨g, cap, cur, rfl, _⟩
  · have : xs = [] := List.eq_nil_of_length_eq_zero (by simpa using k1)
    subst this
    exact wpList_append_own w hg s x t hop w.heap.size e i z size bytes h1 h2 h3 h4 h5 h6 h7 _ 0 [] hs (World.ownsRow_nil _ _ _ _) ad m c news hx hn hc h1c b1 b2 (Nat.le_refl _) (fun v' w' q1 q2 _ => hK v' w' (weak q1).1 q2 (Or.inr (weak q1).2) (World.ownsRow_nil _ _ _ _))
  · by_cases hf : n + m ≤ cap
    · refine wpList_append_fits w hg s x t hop 0 e i size h1 h2 h4 g n cap xs hs hown ad m c news hx hn hc h1c hf (fun w' q1 q2 => hK _ w' q1 q2 (Or.inl rfl) ⟨k1, Or.inr ?_⟩)
      rcases q1.2 with ⟨q, _⟩ | ⟨g', cap', cur', q, q3, q4, q5, q6, q7, q8⟩
      · cases q
      · injection q with q1' _ q3'
        injection q1' with q1'
        injection q1' with q1'
        subst q1'
        subst q3'
        refine ⟨g, cap, cur', rfl, Nat.zero_le _, q4, by omega, q6, q7, ?_⟩
        have : (xs ++ news).take (n * size) = xs := by rw [← k1, List.take_left]
        rw [← q8, List.take_take, Nat.min_eq_left (Nat.mul_le_mul_right _ (by omega))] at this
        exact this
    · refine wpList_append_grows w hg s x t hop e i z size bytes h1 h2 h3 h4 h5 h6 h7 _ n cap xs hs (fun h => by cases h) k1 (fun b hb j u hu => ?_) ad m c news hx hn hc h1c (by omega) b1 b2 (fun v' w' q1 q2 => hK v' w' (weak q1).1 ?_ (Or.inr (weak q1).2) (ownsRow_keep hown (fun j hj => q2.block j (ownsRow_lt hown j hj) (by simp))))
      · obtain rfl := Option.some.inj hb
        have hj := (List.getElem?_eq_some_iff.1 hu).1
        rw [Addr.add_lit, Nat.zero_add, hown.cellAt _ (by omega)]
        exact hu
      · exact ⟨q2.os, q2.tape, q2.output, q2.size, fun k hk _ => q2.block k hk (by simp)⟩
/-- The cells of a list that is full of marks. -/
def badC (k : Int) (len : Nat) : List Value := (List.range (len * 4)).map (fun j => badV k (j % 4))
theorem badC_length (k : Int) (len : Nat) : (badC k len).length = len * 4 := by simp [badC]
theorem badC_at {k : Int} {len j : Nat} (h : j < len * 4) : (badC k len)[j]? = some (badV k (j % 4)) := by
  unfold badC
  rw [List.getElem?_map, List.getElem?_range h]; rfl
theorem badC_succ (k : Int) (len : Nat) : badC k len ++ [badV k 0, badV k 1, badV k 2, badV k 3] = badC k (len + 1) := by
  apply List.ext_getElem?
  intro j
  by_cases h1 : j < len * 4
  · rw [List.getElem?_append_left (by rw [badC_length]; exact h1), badC_at h1, badC_at (by omega)]
  · rw [List.getElem?_append_right (by rw [badC_length]; omega), badC_length]
    by_cases h2 : j < (len + 1) * 4
    · rw [badC_at h2]
      have hm : j - len * 4 = 0 ∨ j - len * 4 = 1 ∨ j - len * 4 = 2 ∨ j - len * 4 = 3 := by omega
      rcases hm with hm | hm | hm | hm <;> rw [hm, show j % 4 = j - len * 4 by omega, hm] <;> rfl
    · rw [List.getElem?_eq_none (by simp; omega), List.getElem?_eq_none (by rw [badC_length]; omega)]
theorem badE_own {w : World} {F : Nat → Prop} {k : Int} {v : Value} {len : Nat} (h : w.ownsRow 0 37 4 v len (badC k len)) (hl : len ≤ 64) (hF : ∀ g, v.ownBlock = some g → F g) : BadE w F k v := by
  rcases id h.2 with ⟨rfl, rfl⟩ | ⟨g, cap, cur, rfl, _⟩
  · exact ⟨none, 0, 0, rfl, by omega, fun h => by omega⟩
  · refine ⟨_, len, cap, rfl, hl, fun _ => ⟨g, rfl, hF g rfl, fun j hj => ?_⟩⟩
    rw [h.cellAt _ (by omega)]
    exact badC_at (by omega)
/-- The cells of a list of items that is full of marks. -/
def badJ (w : World) (F : Nat → Prop) (k : Int) (ys : List Value) : Prop := ∀ y ∈ ys, ∃ h, F h ∧ y = .slice (some ⟨h, 0, none⟩) 1 1 ∧ Bad1 k w h
theorem badJ.up {w w' : World} {F F' : Nat → Prop} {k : Int} {ys : List Value} (h : badJ w F k ys) (u : ∀ j, F j → w'.heap[j]? = w.heap[j]? ∧ F' j) : badJ w' F' k ys := fun y hy => by
  obtain ⟨b, h1, h2, h3⟩ := h y hy
  exact ⟨b, (u b h1).2, h2, h3.keep (u b h1).1⟩
theorem badI_own {w : World} {F : Nat → Prop} {k : Int} {v : Value} {len : Nat} {ys : List Value} (h : w.ownsRow 0 52 1 v len ys) (hy : badJ w F k ys) (hl : len ≤ 64) (hF : ∀ g, v.ownBlock = some g → F g) : BadI w F k v := by
  have hlen := h.1
  rcases id h.2 with ⟨rfl, rfl⟩ | ⟨g, cap, cur, rfl, _⟩
  · exact ⟨none, 0, 0, rfl, by omega, fun h => by omega⟩
  · refine ⟨_, len, cap, rfl, hl, fun _ => ⟨g, rfl, hF g rfl, fun j hj => ?_⟩⟩
    have hj2 : ys[j]? = some ys[j] := List.getElem?_eq_getElem (by omega)
    obtain ⟨b, h1, h2, h3⟩ := hy ys[j] (List.getElem_mem (by omega))
    exact ⟨b, h1, by rw [h.cellAt _ (by omega), hj2, h2], h3⟩
end Go.Proofs.YtaokifbpakbgdaaDoor
