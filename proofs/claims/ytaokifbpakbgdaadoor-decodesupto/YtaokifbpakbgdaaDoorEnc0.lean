/-
  A list into which other elements are written, one after the other; a copy of a list in a row of its own (no program).
-/
import Derived.Test.YtaokifbpakbgdaaDoorLent1
import Derived.Laws.AppendOwnNone
namespace Go.Proofs.YtaokifbpakbgdaaDoor
open Go.RowKit

theorem OutQ.move {n : Nat} {F F' : Nat → Prop} {w w' : World} {l : List (El (n + 1))} {i e j : Nat} {v : Value} (h : OutQ w F l i e j v) (k : ∀ j, F j → w'.heap[j]? = w.heap[j]? ∧ F' j) : OutQ w' F' l i e j v := by
  refine ⟨fun x hx => ?_, h.2⟩
  have := h.1 x hx
  have hj : j % 4 = 0 ∨ j % 4 = 1 ∨ j % 4 = 2 ∨ j % 4 = 3 := by omega
  rcases hj with e | e | e | e <;> rw [e] at this ⊢
  · exact this
  · exact this
  · exact this
  · exact fun hi => (this hi).keep (fun j hj => (k j hj).2) (fun j hj _ => (k j hj).1)
/-- Four cells of a block are written. -/
def set4 (w : World) (g o : Nat) (c0 c1 c2 c3 : Value) : World := (((w.setCell ⟨g, o, none⟩ c0).setCell ⟨g, o + 1, none⟩ c1).setCell ⟨g, o + 2, none⟩ c2).setCell ⟨g, o + 3, none⟩ c3
theorem set4_other {w : World} {g o j : Nat} {c0 c1 c2 c3 : Value} (h : j ≠ g) : (set4 w g o c0 c1 c2 c3).heap[j]? = w.heap[j]? := by
  unfold set4
  rw [Below.heap_setCell _ _ _ _ h, Below.heap_setCell _ _ _ _ h, Below.heap_setCell _ _ _ _ h, Below.heap_setCell _ _ _ _ h]
theorem set4_size {w : World} {g o : Nat} {c0 c1 c2 c3 : Value} : (set4 w g o c0 c1 c2 c3).heap.size = w.heap.size := by
  unfold set4
  simp
theorem Nx.set4 {S0 S : Nat → Prop} {w w' : World} (h : Nx S0 w S w') {g o : Nat} (hp : w.heap.size ≤ g) (c0 c1 c2 c3 : Value) : Nx S0 w S (set4 w' g o c0 c1 c2 c3) := (((h.set (p := ⟨g, o, none⟩) hp c0).set (p := ⟨g, o + 1, none⟩) hp c1).set (p := ⟨g, o + 2, none⟩) hp c2).set (p := ⟨g, o + 3, none⟩) hp c3
theorem Pr.set4 {X S : Nat → Prop} (w : World) {g : Nat} (hp : X g) (o : Nat) (c0 c1 c2 c3 : Value) : Pr X S w S (set4 w g o c0 c1 c2 c3) := fun j hj => ⟨set4_other (fun e => hj.1 (by rw [e]; exact hp)), hj.1, hj.2.1, by rw [set4_size]; exact hj.2.2⟩
/-- Another element in the place i. -/
theorem out_put {n : Nat} {F F' : Nat → Prop} {w : World} {g N i e : Nat} {T : TypeId} {L : List (El (n + 1))} {x : El (n + 1)} {iv : Value} (h : HasC w g T N (OutQ w F L L.length e)) (hi : i < L.length) (hF : ∀ j, F j → j ≠ g ∧ F' j) (hiv : RdI w F n iv x.2.2.2) :
    HasC (set4 w g (i * 4) (.int .i64 x.1) (.string (bs x.2.1)) (.string (bs x.2.2.1)) iv) g T N (OutQ (set4 w g (i * 4) (.int .i64 x.1) (.string (bs x.2.1)) (.string (bs x.2.2.1)) iv) F' (L.set i x) L.length e) := by
  let c (f : Nat) : Value := match f with
    | 0 => .int .i64 x.1
    | 1 => .string (bs x.2.1)
    | 2 => .string (bs x.2.2.1)
    | _ => iv
  let P (k : Nat) (j : Nat) (v : Value) : Prop := (j / 4 ≠ i → OutQ w F L L.length e j v) ∧ (j / 4 = i → j % 4 < k → v = c (j % 4))
  have p0 : HasC w g T N (P 0) := h.keep rfl (fun j v _ hv => ⟨fun _ => hv, fun _ h => by omega⟩)
  have step : ∀ (w' : World) (k : Nat), k < 4 → HasC w' g T N (P k) → HasC (w'.setCell ⟨g, i * 4 + k, none⟩ (c k)) g T N (P (k + 1)) := fun w' k hk h =>
    h.set (i * 4 + k) (c k) ⟨fun h => by omega, fun _ _ => by rw [show (i * 4 + k) % 4 = k by omega]⟩ (fun j v _ hne hv => ⟨hv.1, fun h1 h2 => hv.2 h1 (by omega)⟩)
  have p4 : HasC (set4 w g (i * 4) (.int .i64 x.1) (.string (bs x.2.1)) (.string (bs x.2.2.1)) iv) g T N (P 4) := step _ 3 (by omega) (step _ 2 (by omega) (step _ 1 (by omega) (step _ 0 (by omega) p0)))
  have hk : ∀ j, F j → (set4 w g (i * 4) (.int .i64 x.1) (.string (bs x.2.1)) (.string (bs x.2.2.1)) iv).heap[j]? = w.heap[j]? ∧ F' j := fun j hj => ⟨set4_other (hF j hj).1, (hF j hj).2⟩
  refine p4.keep rfl (fun j v _ hv => ?_)
  by_cases hj : j / 4 = i
  · refine ⟨fun y hy => ?_, fun h1 => by rw [List.length_set] at h1; omega⟩
    rw [hj, List.getElem?_set_self hi] at hy
    obtain rfl := Option.some.inj hy
    have hm : j % 4 = 0 ∨ j % 4 = 1 ∨ j % 4 = 2 ∨ j % 4 = 3 := by omega
    have := hv.2 hj (by omega)
    rcases hm with hm | hm | hm | hm <;> rw [hm] at this ⊢
    · exact this
    · exact this
    · exact this
    · intro _
      rw [show v = iv from this]
      exact hiv.keep (fun j hj => (hk j hj).2) (fun j hj _ => (hk j hj).1)
  · have := (hv.1 hj).move hk
    refine ⟨fun y hy => ?_, fun h1 => this.2 (by rwa [List.length_set] at h1)⟩
    rw [List.getElem?_set_ne (fun e => hj e.symm)] at hy
    exact this.1 y hy
/-- The list so far. -/
def mix {α : Type} (l m : List α) (i : Nat) : List α := m.take i ++ l.drop i
theorem mix_zero {α : Type} (l m : List α) : mix l m 0 = l := by simp [mix]
theorem mix_length {α : Type} {l m : List α} {i : Nat} (h1 : i ≤ l.length) (h2 : i ≤ m.length) : (mix l m i).length = l.length := by
  unfold mix
  rw [List.length_append, List.length_take, List.length_drop]; omega
theorem mix_step {α : Type} {l m : List α} {i : Nat} (h1 : i < l.length) (h2 : i < m.length) : (mix l m i).set i m[i] = mix l m (i + 1) := by
  unfold mix
  rw [List.set_append_right _ _ (by rw [List.length_take]; omega), List.length_take, Nat.min_eq_left (by omega), Nat.sub_self, List.drop_eq_getElem_cons h1, List.set_cons_zero, List.take_succ_eq_append_getElem h2, List.append_assoc]
  rfl
theorem mix_mem {α : Type} {l m : List α} {i : Nat} {x : α} (h : x ∈ mix l m i) : x ∈ l ∨ x ∈ m := by
  unfold mix at h
  rcases List.mem_append.1 h with h | h
  · exact Or.inr (List.mem_of_mem_take h)
  · exact Or.inl (List.mem_of_mem_drop h)
theorem mix_full {n : Nat} {l m : List (El (n + 1))} {i : Nat} (h1 : Full (n + 1) l) (h2 : Full (n + 1) m) : Full (n + 1) (mix l m i) := fun x hx => by
  rcases mix_mem hx with h | h
  · exact h1 x h
  · exact h2 x h
theorem sum_drop_le {α : Type} (f : α → Nat) (l : List α) (k : Nat) : ((l.drop k).map f).sum ≤ (l.map f).sum := by
  have : (l.map f).sum = ((l.take k).map f).sum + ((l.drop k).map f).sum := by rw [← List.sum_append, ← List.map_append, List.take_append_drop]
  omega
theorem mix_blk {n : Nat} (l m : List (El (n + 1))) (i : Nat) : blk (n + 1) (mix l m i) ≤ blk (n + 1) l + blk (n + 1) m := by
  rw [blk_succ, blk_succ, blk_succ]
  unfold mix
  rw [List.map_append, List.sum_append]
  have := sum_take_le (blkE (blk n)) m i
  have := sum_drop_le (blkE (blk n)) l i
  omega
/-- A copy in a row of its own. -/
theorem row_start {n : Nat} {w w0 : World} {F F0 : Nat → Prop} {g cap : Nat} {T : TypeId} {l : List (El (n + 1))} {cs : List Value} (h : w.ownsRow 0 T 4 (.slice (some ⟨g, 0, none⟩) l.length cap) l.length cs)
    (hc : ∀ (j : Nat) v x, cs[j]? = some v → l[j / 4]? = some x → match j % 4 with
        | 0 => v = .int .i64 x.1
        | 1 => v = .string (bs x.2.1)
        | 2 => v = .string (bs x.2.2.1)
        | _ => RdI w0 F0 n v x.2.2.2) (hF : ∀ j, F0 j → w.heap[j]? = w0.heap[j]? ∧ F j) : HasC w g T (cap * 4) (OutQ w F l l.length 0) ∧ l.length ≤ cap := by
  have hlen := h.1
  rcases h.2 with ⟨h, _⟩ | ⟨g', cap', cur, h, _, hg, hnc, _, hs, htake⟩
  · cases h
  injection h with h1 _ h3
  injection h1 with h1
  injection h1 with h1
  subst h1
  subst h3
  refine ⟨⟨cur, hg, hs, fun j v hv => ⟨fun x hx => ?_, fun _ h => by omega⟩⟩, hnc⟩
  have hj := (List.getElem?_eq_some_iff.1 hx).1
  have hv' : cs[j]? = some v := by
    rw [← htake, List.getElem?_take, if_pos (by omega)]
    simpa using hv
  have := hc j v x hv' hx
  have hm : j % 4 = 0 ∨ j % 4 = 1 ∨ j % 4 = 2 ∨ j % 4 = 3 := by omega
  rcases hm with hm | hm | hm | hm <;> rw [hm] at this ⊢
  · exact this
  · exact this
  · exact this
  · exact fun _ => this.keep (fun j hj => (hF j hj).2) (fun j hj _ => (hF j hj).1)
theorem row_rd {n : Nat} {w : World} {g N : Nat} {F F' : Nat → Prop} {T : TypeId} {l : List (El (n + 1))} {e cap : Nat} (h : HasC w g T N (OutQ w F l l.length e)) (hN : l.length * 4 ≤ N) (hF : ∀ j, F j → F' j) (hg : F' g) : Rd w F' (n + 1) (.slice (some ⟨g, 0, none⟩) l.length cap) l := by
  refine ⟨some ⟨g, 0, none⟩, cap, rfl, fun i x hx => ⟨_, rfl, hg, ?_⟩⟩
  have hi := (List.getElem?_eq_some_iff.1 hx).1
  have hc : ∀ f, f < 4 → ∃ v, w.cell? ((Addr.add ⟨g, 0, none⟩ (4 * i)).add f) = some v ∧ OutQ w F l l.length e (4 * i + f) v := fun f hf => by
    have := h.cell (j := 4 * i + f) (by omega)
    rw [Addr.add_lit, Addr.add_lit, Nat.zero_add]
    exact this
  obtain ⟨v0, c0, q0⟩ := hc 0 (by omega)
  obtain ⟨v1, c1, q1⟩ := hc 1 (by omega)
  obtain ⟨v2, c2, q2⟩ := hc 2 (by omega)
  obtain ⟨v3, c3, q3⟩ := hc 3 (by omega)
  have a0 := q0.1 x (by rw [show (4 * i + 0) / 4 = i by omega]; exact hx)
  have a1 := q1.1 x (by rw [show (4 * i + 1) / 4 = i by omega]; exact hx)
  have a2 := q2.1 x (by rw [show (4 * i + 2) / 4 = i by omega]; exact hx)
  have a3 := q3.1 x (by rw [show (4 * i + 3) / 4 = i by omega]; exact hx)
  rw [show (4 * i + 0) % 4 = 0 by omega] at a0
  rw [show (4 * i + 1) % 4 = 1 by omega] at a1
  rw [show (4 * i + 2) % 4 = 2 by omega] at a2
  rw [show (4 * i + 3) % 4 = 3 by omega, show (4 * i + 3) / 4 = i by omega] at a3
  simp only at a0 a1 a2 a3
  subst a0
  subst a1
  subst a2
  rw [Addr.add_zero'] at c0
  exact ⟨c0, c1, c2, v3, c3, (a3 hi).keep hF (fun _ _ _ => rfl)⟩
/-- 'append' of what came in to a list that has nothing in it. -/
theorem wpList_append_fresh {P : Program} (w : World) {ops : Array Oper} {rest : List Oper} {o : Oper} {a : Act} {Q : Exit → Act → World → Prop}
    (hg : o.guard = none) (s x : Operand) (t : TypeId) (hop : o.op = Op.call { callee := Callee.builtin Builtin.append, args := #[s, x], argTypes := #[t, t] })
    (e : TypeId) (i : TypeInfo) (z : Value) (size bytes : Nat) (h1 : P.underlying t = some (.slice e)) (h2 : P.info? e = some i) (h3 : i.zero = some z) (h4 : i.size = size) (h5 : i.bytes = bytes) (h6 : z.cells.size = size) (h7 : 0 < size)
    (hs : a.eval s = .slice none 0 0) (ad : Option Addr) (m c : Nat) (news : List Value) (hx : a.eval x = .slice ad m c) (hnil : ad = none → m = 0 ∧ c = 0) (hn : news.length = m * size) (hc : ∀ b, ad = some b → ∀ j u, news[j]? = some u → w.cell? (b.add j) = some u) (h1c : ∀ u ∈ news, u.oneCell' = true)
    (b1 : m ≤ maxLen) (b2 : m * bytes ≤ 140737488355328)
    (hK : ∀ ad' c' w', w'.ownsRow 0 e size (.slice ad' m c') m news → Below w.heap.size w w' → (∀ b, ad' = some b → w.heap.size ≤ b.block) → wpList P ops Q rest (a.put o.dst (.slice ad' m c')) w') :
    wpList P ops Q (o :: rest) a w := by
  cases ad with
  | none =>
    obtain ⟨rfl, rfl⟩ := hnil rfl
    obtain rfl : news = [] := List.eq_nil_of_length_eq_zero (by simpa using hn)
    exact wpList_append_own_none hg s x t hop 0 e i size h1 h2 (.slice none 0 0) 0 [] hs (World.ownsRow_nil _ _ _ _) hx (hK none 0 w (World.ownsRow_nil _ _ _ _) (Below.refl _ _) (fun b h => nomatch h))
  | some b =>
    refine wpList_append_sep w hg s x t hop e i z size bytes h1 h2 h3 h4 h5 h6 h7 _ 0 [] hs (World.ownsRow_nil _ _ _ _) b m c news hx hn (hc b rfl) h1c (by rw [Nat.zero_add]; exact b1) (by rw [Nat.zero_add]; exact b2) (fun v' w' q1 q2 q3 => ?_)
    rw [Nat.zero_add, List.nil_append] at q1
    have q2' : Below w.heap.size w w' := ⟨q2.os, q2.tape, q2.output, q2.size, fun j hj => q2.block j hj (by simp [Value.ownBlock])⟩
    rcases id q1.2 with ⟨rfl, rfl⟩ | ⟨g, cap, cur, rfl, _⟩
    · exact hK none 0 w' q1 q2' (fun b h => nomatch h)
    · refine hK _ _ w' q1 q2' (fun b hb => ?_)
      obtain rfl := Option.some.inj hb
      rcases q3 with q3 | q3
      · simp [Value.ownBlock] at q3
      · exact q3 g (by simp [Value.ownBlock])
/-- The blocks that a list reads from are there. -/
theorem Rd.there {w : World} {F : Nat → Prop} : ∀ (n : Nat) (v : Value) (l : List (El n)), Full n l → Rd w F n v l → Rd w (fun j => F j ∧ j < w.heap.size) n v l
  | 0, _, _, hf, _ => hf.elim
  | n + 1, v, l, hf, h => by
    obtain ⟨ad, cap, e, hc⟩ := h
    refine ⟨ad, cap, e, fun i x hx => ?_⟩
    obtain ⟨a, ha, hF, c0, c1, c2, iv, c3, iad, icap, ei, hic⟩ := hc i x hx
    have hb := World.block_lt_of_cell? _ _ c0
    rw [add_block] at hb
    refine ⟨a, ha, ⟨hF, hb⟩, c0, c1, c2, iv, c3, iad, icap, ei, fun k s hs => ?_⟩
    obtain ⟨b, hb1, hF2, sv, d0, hr⟩ := hic k s hs
    have hb2 := World.block_lt_of_cell? _ _ d0
    rw [add_block] at hb2
    exact ⟨b, hb1, ⟨hF2, hb2⟩, sv, d0, Rd.there n sv s (hf x (List.mem_of_getElem? hx) s (List.mem_of_getElem? hs)) hr⟩
end Go.Proofs.YtaokifbpakbgdaaDoor
