/-
  A data set that came in, as the walk wants it: a tree that is known down to its leaves.
-/
import Derived.Test.YtaokifbpakbgdaaDoorWhole
import Derived.Test.YtaokifbpakbgdaaDoorMem
import Derived.Test.YtaokifbpakbgdaaDoorFrameD
namespace Go.Proofs.YtaokifbpakbgdaaDoor
open Go.ChangeShapes Go.WideShapes Go.ChangeAt Go.RowKit

theorem cells_el : Tryd.prog.cellsOf 37 = 4 := by kernel_rfl
theorem cells_it : Tryd.prog.cellsOf 52 = 1 := by kernel_rfl
theorem cells_str : Tryd.prog.cellsOf 9 = 1 := by kernel_rfl
theorem cells_its : Tryd.prog.cellsOf 35 = 1 := by kernel_rfl
theorem cells_els : Tryd.prog.cellsOf 22 = 1 := by kernel_rfl
/-- One thing for each place. -/
theorem gather {α β : Type} (R : Nat → β → α → Prop) : ∀ (es : List β) (k : Nat), (∀ i y, es[i]? = some y → ∃ x, R (k + i) y x) → ∃ l : List α, l.length = es.length ∧ ∀ i x, l[i]? = some x → ∃ y, es[i]? = some y ∧ R (k + i) y x
  | [], _, _ => ⟨[], rfl, fun i x hx => by simp at hx⟩
  | y :: es, k, h => by
    obtain ⟨x, hx⟩ := h 0 y rfl
    obtain ⟨l, hl, hc⟩ := gather R es (k + 1) (fun i z hz => by
      obtain ⟨x, hx⟩ := h (i + 1) z (by simpa using hz)
      exact ⟨x, by rw [show k + 1 + i = k + (i + 1) by omega]; exact hx⟩)
    refine ⟨x :: l, by simp [hl], fun i z hz => ?_⟩
    cases i with
    | zero =>
      simp only [List.getElem?_cons_zero, Option.some.injEq] at hz
      subst hz
      exact ⟨y, rfl, hx⟩
    | succ i =>
      obtain ⟨y', h1, h2⟩ := hc i z (by simpa using hz)
      exact ⟨y', by simpa using h1, by rw [show k + (i + 1) = k + 1 + i by omega]; exact h2⟩
theorem bulk_sum {α H : Type} {p : Type} (f : α → Nat) : ∀ (l : List α) (es : List (DataW H × p)), l.length = es.length → (∀ (i : Nat) (x : α) (y : DataW H × p), l[i]? = some x → es[i]? = some y → f x ≤ Rows.uptoBulk y.1) → (l.map f).sum ≤ Rows.uptoBulkAll (es.map (·.1))
  | [], _, _, _ => by simp
  | x :: l, [], h, _ => by simp at h
  | x :: l, y :: es, h, hc => by
    have h0 := hc 0 x y rfl rfl
    have := bulk_sum f l es (by simpa using h) (fun i x' y' h1 h2 => hc (i + 1) x' y' (by simpa using h1) (by simpa using h2))
    simp only [List.map_cons, List.sum_cons, Rows.uptoBulkAll]
    omega
def OE (H : Type) (enc : TypeId × Value → H) (W : World) (n : Nat) : Prop := ∀ (fuel : Nat), fuel ≤ n → ∀ (v : Value) (d : DataW H) (q : List MemPlace), DataW.trod enc Tryd.prog W 0 (fun _ => true) true fuel 22 [v] = some (d, q) →
  ∃ l : List (El n), Rd W (fun _ => True) n v l ∧ Full n l ∧ blk n l ≤ Rows.uptoBulk d
theorem list1 {α : Type} {l : List α} (h : l.length = 1) : ∃ a, l = [a] := by
  match l, h with
  | [a], _ => exact ⟨a, rfl⟩
theorem list4 {α : Type} {l : List α} (h : l.length = 4) : ∃ a b c d, l = [a, b, c, d] := by
  match l, h with
  | [a, b, c, d], _ => exact ⟨a, b, c, d, rfl⟩
set_option maxRecDepth 20000 in
theorem open_its {H : Type} {enc : TypeId × Value → H} {W : World} {n : Nat} (IH : OE H enc W n) (m : Nat) (hm : m ≤ n + 1) (v : Value) (y : DataW H × List MemPlace) (h : DataW.trod enc Tryd.prog W 0 (fun _ => true) true m 35 [v] = some y) :
    ∃ its : Its n, RdI W (fun _ => True) n v its ∧ (∀ s ∈ its, Full n s) ∧ (its.map (fun s => 1 + blk n s)).sum + 1 ≤ Rows.uptoBulk y.1 := by
  rcases DataW.trod_slice Tryd.underlying35 h with ⟨hcs, hx⟩ | ⟨a, len, cap, elems, rest, m2, rfl, hcs, rfl, _, hlc, hcm, hlen, hel, _, _⟩
  · obtain rfl : v = .slice none 0 0 := by simpa using hcs
    subst hx
    exact ⟨[], RdI.nil _ _ _, (fun x hx => nomatch hx), by simp [Rows.uptoBulk]⟩
  · obtain rfl : v = .slice (some a) len cap := by simpa using hcs
    obtain ⟨l, hl, hc⟩ := gather (α := List (El n)) (fun i (y : DataW H × List MemPlace) s => (∃ sv, W.cell? (a.add (1 * i)) = some sv ∧ Rd W (fun _ => True) n sv s) ∧ Full n s ∧ 1 + blk n s ≤ Rows.uptoBulk y.1) elems 0 (fun i y hy => by
      have hi : i < len := by have := (List.getElem?_eq_some_iff.1 hy).1; omega
      have hb := (hel i hi).trans hy
      rw [cells_it, Option.bind_eq_some_iff] at hb
      obtain ⟨cs, hcs, htr⟩ := hb
      obtain ⟨_, hcl, hcc⟩ := World.cells?_some hcs
      obtain ⟨c0, rfl⟩ := list1 hcl
      obtain ⟨xs, m3, rfl, rfl, _, hxl, hfs⟩ := DataW.trod_struct Tryd.underlying52 htr
      obtain ⟨y0, rfl⟩ := list1 (l := xs) hxl
      have f0 : DataW.trod enc Tryd.prog W 0 (fun _ => true) true m3 22 (([c0].drop 0).take (Tryd.prog.cellsOf 22)) = some y0 := hfs 0 _ rfl
      rw [cells_els] at f0
      replace f0 : DataW.trod enc Tryd.prog W 0 (fun _ => true) true m3 22 [c0] = some y0 := f0
      obtain ⟨d, q⟩ := y0
      obtain ⟨s, h1, h2, h3⟩ := IH m3 (by omega) c0 d q f0
      have h0 := hcc 0 (by omega)
      rw [Addr.add_zero'] at h0
      rw [Nat.zero_add, Nat.one_mul]
      rw [Nat.mul_one] at h0
      exact ⟨s, ⟨c0, h0, h1⟩, h2, by simp [Rows.uptoBulk, Rows.uptoBulkAll]; omega⟩)
    refine ⟨l, ⟨some a, cap, by rw [hl, hlen], fun i s hs => ?_⟩, fun s hs => ?_, ?_⟩
    · obtain ⟨y, _, h2, _⟩ := hc i s hs
      rw [Nat.zero_add] at h2
      exact ⟨a, rfl, trivial, h2⟩
    · obtain ⟨i, hi⟩ := List.getElem?_of_mem hs
      obtain ⟨y, _, _, h2, _⟩ := hc i s hi
      exact h2
    · have := bulk_sum (fun s => 1 + blk n s) l elems hl (fun i x y hx hy => by
        obtain ⟨y', h1, _, _, h3⟩ := hc i x hx
        obtain rfl := Option.some.inj (hy.symm.trans h1)
        exact h3)
      simp only [Rows.uptoBulk]
      omega
set_option maxRecDepth 20000 in
theorem open_step {H : Type} {enc : TypeId × Value → H} {W : World} {n : Nat} (IH : OE H enc W n) : OE H enc W (n + 1) := by
  intro fuel hf v d q h
  rcases DataW.trod_slice Tryd.underlying22 h with ⟨hcs, hx⟩ | ⟨a, len, cap, elems, rest, m, rfl, hcs, hx, _, hlc, hcm, hlen, hel, _, _⟩
  · obtain rfl : v = .slice none 0 0 := by simpa using hcs
    simp only [Prod.mk.injEq] at hx
    obtain ⟨rfl, rfl⟩ := hx
    exact ⟨[], Rd.nil _ _ _, (fun x hx => nomatch hx), by simp [blk, Rows.uptoBulk]⟩
  · obtain rfl : v = .slice (some a) len cap := by simpa using hcs
    simp only [Prod.mk.injEq] at hx
    obtain ⟨rfl, rfl⟩ := hx
    obtain ⟨l, hl, hc⟩ := gather (α := El (n + 1)) (fun i (y : DataW H × List MemPlace) x => (W.cell? (a.add (4 * i)) = some (.int .i64 x.1) ∧ W.cell? ((a.add (4 * i)).add 1) = some (.string (bs x.2.1)) ∧ W.cell? ((a.add (4 * i)).add 2) = some (.string (bs x.2.2.1)) ∧
        ∃ iv, W.cell? ((a.add (4 * i)).add 3) = some iv ∧ RdI W (fun _ => True) n iv x.2.2.2) ∧ (∀ s ∈ x.2.2.2, Full n s) ∧ blkE (blk n) x ≤ Rows.uptoBulk y.1) elems 0 (fun i y hy => by
      have hi : i < len := by have := (List.getElem?_eq_some_iff.1 hy).1; omega
      have hb := (hel i hi).trans hy
      rw [cells_el, Option.bind_eq_some_iff] at hb
      obtain ⟨cs, hcs, htr⟩ := hb
      obtain ⟨_, hcl, hcc⟩ := World.cells?_some hcs
      obtain ⟨c0, c1, c2, c3, rfl⟩ := list4 hcl
      obtain ⟨xs, m3, rfl, rfl, _, hxl, hfs⟩ := DataW.trod_struct Tryd.underlying37 htr
      obtain ⟨y0, y1, y2, y3, rfl⟩ := list4 (l := xs) hxl
      have f0 : DataW.trod enc Tryd.prog W 0 (fun _ => true) true m3 3 (([c0, c1, c2, c3].drop 0).take (Tryd.prog.cellsOf 3)) = some y0 := hfs 0 _ rfl
      have f1 : DataW.trod enc Tryd.prog W 0 (fun _ => true) true m3 9 (([c0, c1, c2, c3].drop 1).take (Tryd.prog.cellsOf 9)) = some y1 := hfs 1 _ rfl
      have f2 : DataW.trod enc Tryd.prog W 0 (fun _ => true) true m3 9 (([c0, c1, c2, c3].drop 2).take (Tryd.prog.cellsOf 9)) = some y2 := hfs 2 _ rfl
      have f3 : DataW.trod enc Tryd.prog W 0 (fun _ => true) true m3 35 (([c0, c1, c2, c3].drop 3).take (Tryd.prog.cellsOf 35)) = some y3 := hfs 3 _ rfl
      rw [cells_int] at f0
      rw [cells_str] at f1 f2
      rw [cells_its] at f3
      replace f0 : DataW.trod enc Tryd.prog W 0 (fun _ => true) true m3 3 [c0] = some y0 := f0
      replace f1 : DataW.trod enc Tryd.prog W 0 (fun _ => true) true m3 9 [c1] = some y1 := f1
      replace f2 : DataW.trod enc Tryd.prog W 0 (fun _ => true) true m3 9 [c2] = some y2 := f2
      replace f3 : DataW.trod enc Tryd.prog W 0 (fun _ => true) true m3 35 [c3] = some y3 := f3
      obtain ⟨z, e0, rfl, _⟩ := DataW.trod_int Tryd.underlying3 f0
      obtain ⟨k, e1, rfl, _⟩ := DataW.trod_string Tryd.underlying9 f1
      obtain ⟨u, e2, rfl, _⟩ := DataW.trod_string Tryd.underlying9 f2
      obtain ⟨its, h1, h2, h3⟩ := open_its IH m3 (by omega) c3 y3 f3
      obtain rfl : c0 = .int .i64 z := by simpa using e0
      obtain rfl : c1 = .string k := by simpa using e1
      obtain rfl : c2 = .string u := by simpa using e2
      have g0 := hcc 0 (by omega)
      have g1 := hcc 1 (by omega)
      have g2 := hcc 2 (by omega)
      have g3 := hcc 3 (by omega)
      rw [Addr.add_zero'] at g0
      rw [Nat.zero_add, Nat.mul_comm 4 i]
      exact ⟨(z, k.data.toList, u.data.toList, its), ⟨g0, g1, g2, c3, g3, h1⟩, h2, by simp [blkE, Rows.uptoBulk, Rows.uptoBulkAll]; omega⟩)
    refine ⟨l, ⟨some a, cap, by rw [hl, hlen], fun i x hx => ?_⟩, fun x hx s hs => ?_, ?_⟩
    · obtain ⟨y, _, h2, _⟩ := hc i x hx
      rw [Nat.zero_add] at h2
      exact ⟨a, rfl, trivial, h2⟩
    · obtain ⟨i, hi⟩ := List.getElem?_of_mem hx
      obtain ⟨y, _, _, h2, _⟩ := hc i x hi
      exact h2 s hs
    · have := bulk_sum (blkE (blk n)) l elems hl (fun i x y hx hy => by
        obtain ⟨y', h1, _, _, h3⟩ := hc i x hx
        obtain rfl := Option.some.inj (hy.symm.trans h1)
        exact h3)
      rw [blk_succ]
      simp only [Rows.uptoBulk]
      omega
theorem open_els (H : Type) (enc : TypeId × Value → H) (W : World) : ∀ n, OE H enc W n
  | 0 => fun fuel hf v d q h => by
    obtain rfl : fuel = 0 := by omega
    simp [DataW.trod] at h
  | n + 1 => open_step (open_els H enc W n)
end Go.Proofs.YtaokifbpakbgdaaDoor
