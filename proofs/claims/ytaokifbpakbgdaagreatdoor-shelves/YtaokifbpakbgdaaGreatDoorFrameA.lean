/-
  What the frames of the archives' statements share: the listed variables give what the walks ask; a script that came in.
-/
import Derived.Test.YtaokifbpakbgdaaGreatDoorFrame
import Derived.Test.YtaokifbpakbgdaaGreatDoorArS7
import Derived.Laws.IdiomArrays
namespace Go.Proofs.YtaokifbpakbgdaaGreatDoor
open Go.ChangeShapes Go.WideShapes Go.ChangeAt Go.RowKit

theorem g_names : Tryz.prog.globalNamed "folio/archive.names" = some 1 := by kernel_rfl
theorem t_names : (Tryz.prog.globals[1]?).map (·.type) = some 66 := by kernel_rfl
theorem cellsA_int : Tryz.prog.cellsOf 3 = 1 := by kernel_rfl
theorem cellsA_str : Tryz.prog.cellsOf 9 = 1 := by kernel_rfl
theorem cellsA_op : Tryz.prog.cellsOf 34 = 3 := by kernel_rfl
theorem cellsA_names : Tryz.prog.cellsOf 66 = 4 := by kernel_rfl
theorem list3A {α : Type} {l : List α} (h : l.length = 3) : ∃ a b c, l = [a, b, c] := by
  match l, h with
  | [a, b, c], _ => exact ⟨a, b, c, rfl⟩
theorem list4A {α : Type} {l : List α} (h : l.length = 4) : ∃ a b c d, l = [a, b, c, d] := by
  match l, h with
  | [a, b, c, d], _ => exact ⟨a, b, c, d, rfl⟩
/-- THE LISTED VARIABLES, AND THE WORLD's SHAPE: what the walks ask of the library's variables. -/
theorem varsA_of {W : World} (h : laidMetH Tryz.prog Rows.shelvesRow.laid W) (hsh : W.ShapedOpen Tryz.prog) : Vars W := by
  refine ⟨Tryz.laysM145.s1_3 W hsh, ?_, ?_⟩
  · rw [MakeChecks.laidMetH_plain _ _ _ (by kernel_rfl)] at h
    obtain ⟨ps, ⟨_, _, _, _, _, _, _, _, _, _, ⟨_, _, _, _, _, _, _, _, _, _, ⟨_, _, _, _, _, _, _, _, _, _, ⟨_, _, _, _, _, _, _, _, _, _, ⟨_, _, _, _, _, _, _, _, _, _, ⟨g, t, cs, fuel, p, q, hg, ht, hv, hd, _, _⟩, _⟩, _⟩, _⟩, _⟩, _⟩, _, _⟩ := h
    obtain rfl := Option.some.inj (g_syntax.symm.trans hg)
    obtain rfl := Option.some.inj (t_syntax.symm.trans ht)
    exact iface_cell g_syntax hv hd
  · rw [MakeChecks.laidMetH_plain _ _ _ (by kernel_rfl)] at h
    obtain ⟨ps, ⟨_, _, _, _, _, _, _, _, _, _, ⟨_, _, _, _, _, _, _, _, _, _, ⟨_, _, _, _, _, _, _, _, _, _, ⟨_, _, _, _, _, _, _, _, _, _, ⟨g, t, cs, fuel, p, q, hg, ht, hv, hd, _, _⟩, _⟩, _⟩, _⟩, _⟩, _, _⟩ := h
    obtain rfl := Option.some.inj (g_range.symm.trans hg)
    obtain rfl := Option.some.inj (t_range.symm.trans ht)
    exact iface_cell g_range hv hd
theorem names_trod {W : World} {cs : Array Value} {fuel : Nat} {p : List MemPlace} (hv : W.var? Tryz.prog "folio/archive.names" = some cs) (hd : DataW.trod (fun _ => ()) Tryz.prog W 0 (fun _ => true) false fuel 66 cs.toList = some (Rows.laid_folio_archive_names, p)) : NamesV W := by
  obtain ⟨l⟩ := cs
  have hl : l.length = 4 := by
    obtain ⟨_, _, _, _, hcl, _⟩ := DataW.trod_array Tryz.underlying66 hd
    rw [cellsA_names] at hcl
    exact hcl
  obtain ⟨c0, c1, c2, c3, rfl⟩ := list4A hl
  obtain ⟨y0, y1, y2, y3, n, hx, f0, f1, f2, f3⟩ := trod_array4 Tryz.underlying66 cellsA_int hd
  obtain ⟨z0, e0, rfl, _⟩ := DataW.trod_int Tryz.underlying3 f0
  obtain ⟨z1, e1, rfl, _⟩ := DataW.trod_int Tryz.underlying3 f1
  obtain ⟨z2, e2, rfl, _⟩ := DataW.trod_int Tryz.underlying3 f2
  obtain ⟨z3, e3, rfl, _⟩ := DataW.trod_int Tryz.underlying3 f3
  simp [Rows.laid_folio_archive_names] at hx
  obtain ⟨⟨rfl, rfl, rfl, rfl⟩, _⟩ := hx
  simp at e0 e1 e2 e3
  subst e0; subst e1; subst e2; subst e3
  intro i hi
  have h := World.var?_cell g_names hv i
  rcases (show i = 0 ∨ i = 1 ∨ i = 2 ∨ i = 3 by omega) with rfl | rfl | rfl | rfl <;> simpa [nameT] using h
theorem namesA_of {W : World} (h : laidMetH Tryz.prog Rows.shelvesRow.laid W) : NamesV W := by
  rw [MakeChecks.laidMetH_plain _ _ _ (by kernel_rfl)] at h
  obtain ⟨ps, ⟨_, _, _, _, _, _, _, _, _, _, ⟨_, _, _, _, _, _, _, _, _, _, ⟨_, _, _, _, _, _, _, _, _, _, ⟨_, _, _, _, _, _, _, _, _, _, ⟨_, _, _, _, _, _, _, _, _, _, ⟨_, _, _, _, _, _, _, _, _, _, ⟨_, _, _, _, _, _, _, _, _, _, ⟨g, t, cs, fuel, p, q, hg, ht, hv, hd, _, _⟩, _⟩, _⟩, _⟩, _⟩, _⟩, _⟩, _⟩, _, _⟩ := h
  obtain rfl := Option.some.inj (g_names.symm.trans hg)
  obtain rfl := Option.some.inj (t_names.symm.trans ht)
  exact names_trod hv hd
set_option maxRecDepth 100000 in
theorem laidA_met (os : Os) (args : Array Value) : laidMet Tryz.prog Rows.shelvesRow.laid ((World.laidAll Tryz.prog os Rows.shelvesRow.laid).forCall (fun _ _ => 0) ⟨#[], args, []⟩).memory :=
  laidMet_laidAll _ (by kernel_rfl) (by kernel_rfl)
set_option maxRecDepth 100000 in
theorem laidA_shaped (os : Os) (args : Array Value) : ((World.laidAll Tryz.prog os Rows.shelvesRow.laid).forCall (fun _ _ => 0) ⟨#[], args, []⟩).Shaped Tryz.checked.prog :=
  World.shaped_of_ZipB (by kernel_rfl) (by kernel_rfl)
theorem gatherA {α β : Type} (R : Nat → β → α → Prop) : ∀ (es : List β) (k : Nat), (∀ i y, es[i]? = some y → ∃ x, R (k + i) y x) → ∃ l : List α, l.length = es.length ∧ ∀ i x, l[i]? = some x → ∃ y, es[i]? = some y ∧ R (k + i) y x
  | [], _, _ => ⟨[], rfl, fun i x hx => by simp at hx⟩
  | y :: es, k, h => by
    obtain ⟨x, hx⟩ := h 0 y rfl
    obtain ⟨l, hl, hc⟩ := gatherA R es (k + 1) (fun i z hz => by
      obtain ⟨x, hx⟩ := h (i + 1) z (by simpa using hz)
      exact ⟨x, by rw [show k + 1 + i = k + (i + 1) by omega]; exact hx⟩)
    refine ⟨x :: l, by simp [hl], fun i z hz => ?_⟩
    cases i with
    | zero =>
      simp only [List.getElem?_cons_zero, Option.some.injEq] at hz
      subst hz
      exact ⟨y, rfl, hx⟩
    | succ i =>
      obtain ⟨y', h1, h2⟩ := hc i z (by simpa using hz)
      exact ⟨y', by simpa using h1, by rw [show k + (i + 1) = k + 1 + i by omega]; exact h2⟩
theorem bytesA_op : Tryz.prog.bytesOf 34 = 32 := by kernel_rfl
set_option maxRecDepth 20000 in
/-- A script that came in. -/
theorem open_script {H : Type} {enc : TypeId × Value → H} {W : World} {fuel : Nat} {v : Value} {d : DataW H} {q : List MemPlace} {ts : List TypeId} {ds : List (DataW H)} (h : DataW.trod enc Tryz.prog W 0 (fun _ => true) true fuel 27 [v] = some (d, q)) (hsz : (DataW.weightsEach Tryz.prog ts ds).all (· ≤ reachBytes) = true) (ht : ts[0]? = some 27) (hd : ds[0]? = some d) : ∃ l, Scr W v l := by
  rcases DataW.trod_slice Tryz.underlying27 h with ⟨hcs, hx⟩ | ⟨a, len, cap, elems, rest, m, rfl, hcs, hx, _, hlc, hcm, hlen, hel, _, _⟩
  · obtain rfl : v = .slice none 0 0 := by simpa using hcs
    exact ⟨[], ⟨none, 0, rfl, fun i x hx => by simp at hx⟩, (fun x hx => nomatch hx), by simp⟩
  · obtain rfl : v = .slice (some a) len cap := by simpa using hcs
    simp only [Prod.mk.injEq] at hx
    obtain ⟨rfl, rfl⟩ := hx
    have hone : ∀ (i : Nat) (y : DataW H × List MemPlace), elems[i]? = some y → ∃ x : Opn, OpAt W (a.add (3 * (0 + i))) x ∧ OkOp x := fun i y hy => by
      have hi : i < len := by have := (List.getElem?_eq_some_iff.1 hy).1; omega
      have hb := (hel i hi).trans hy
      rw [cellsA_op, Option.bind_eq_some_iff] at hb
      obtain ⟨cs, hcs, htr⟩ := hb
      obtain ⟨_, hcl, hcc⟩ := World.cells?_some hcs
      obtain ⟨c0, c1, c2, rfl⟩ := list3A hcl
      obtain ⟨xs, m3, rfl, rfl, _, hxl, hfs⟩ := DataW.trod_struct Tryz.underlying34 htr
      obtain ⟨y0, y1, y2, rfl⟩ := list3A (l := xs) hxl
      have f0 : DataW.trod enc Tryz.prog W 0 (fun _ => true) true m3 3 (([c0, c1, c2].drop 0).take (Tryz.prog.cellsOf 3)) = some y0 := hfs 0 _ rfl
      have f1 : DataW.trod enc Tryz.prog W 0 (fun _ => true) true m3 3 (([c0, c1, c2].drop 1).take (Tryz.prog.cellsOf 3)) = some y1 := hfs 1 _ rfl
      have f2 : DataW.trod enc Tryz.prog W 0 (fun _ => true) true m3 9 (([c0, c1, c2].drop 2).take (Tryz.prog.cellsOf 9)) = some y2 := hfs 2 _ rfl
      rw [cellsA_int] at f0 f1
      rw [cellsA_str] at f2
      replace f0 : DataW.trod enc Tryz.prog W 0 (fun _ => true) true m3 3 [c0] = some y0 := f0
      replace f1 : DataW.trod enc Tryz.prog W 0 (fun _ => true) true m3 3 [c1] = some y1 := f1
      replace f2 : DataW.trod enc Tryz.prog W 0 (fun _ => true) true m3 9 [c2] = some y2 := f2
      obtain ⟨z, e0, rfl, wf0⟩ := DataW.trod_int Tryz.underlying3 f0
      obtain ⟨k, e1, rfl, wf1⟩ := DataW.trod_int Tryz.underlying3 f1
      obtain ⟨u, e2, rfl, hu⟩ := DataW.trod_string Tryz.underlying9 f2
      obtain rfl : c0 = .int .i64 z := by simpa using e0
      obtain rfl : c1 = .int .i64 k := by simpa using e1
      obtain rfl : c2 = .string u := by simpa using e2
      have g0 := hcc 0 (by omega)
      have g1 := hcc 1 (by omega)
      have g2 := hcc 2 (by omega)
      rw [Addr.add_zero'] at g0
      rw [Nat.zero_add, Nat.mul_comm]
      exact ⟨(z, k, u.data.toList), ⟨g0, g1, g2⟩, int_bd wf0, int_bd wf1, by show u.data.toList.length ≤ _; rw [len_list]; unfold maxLen at hu; omega⟩
    obtain ⟨l, hl, hc⟩ := gatherA (α := Opn) (fun i (_ : DataW H × List MemPlace) x => OpAt W (a.add (3 * i)) x ∧ OkOp x) elems 0 hone
    refine ⟨l, ⟨some a, cap, by rw [hl, hlen], fun i x hx => ?_⟩, fun x hx => ?_, ?_⟩
    · obtain ⟨y, _, h2, _⟩ := hc i x hx
      rw [Nat.zero_add] at h2
      exact ⟨a, rfl, by have := World.block_lt_of_cell? _ _ h2.1; rwa [add_block] at this, h2⟩
    · obtain ⟨i, hi⟩ := List.getElem?_of_mem hx
      obtain ⟨y, _, _, h2⟩ := hc i x hi
      exact h2
    · have hs := sized_slice hsz ht hd Tryz.underlying27
      rw [bytesA_op] at hs
      simp only [List.length_map, reachBytes] at hs
      omega
end Go.Proofs.YtaokifbpakbgdaaGreatDoor
