/-
  Several texts in one; what each one has stands at its head.
-/
import Derived.Test.YtaokifbpakbgdaaGreatDoorPut3
import Derived.Test.YtaokifbpakbgdaaGreatDoorPut21
import Derived.Laws.IdiomArrays
import Derived.Test.YtaokifbpakbgdaaGreatDoorPut19
import Derived.BigQuiet
import Derived.Test.YtaokifbpakbgdaaGreatDoorPut14
import Derived.Test.YtaokifbpakbgdaaGreatDoorPut2
/- What the frames of the archives' statements share: the listed variables give what the walks ask; a script that came in. -/
namespace Go.Proofs.YtaokifbpakbgdaaGreatDoor
open Go.ChangeShapes Go.WideShapes Go.ChangeAt Go.RowKit

theorem g_names : Tryz.prog.globalNamed "folio/archive.names" = some 1 := by kernel_rfl
theorem t_names : (Tryz.prog.globals[1]?).map (·.type) = some 66 := by kernel_rfl
theorem cellsA_int : Tryz.prog.cellsOf 3 = 1 := by kernel_rfl
theorem cellsA_str : Tryz.prog.cellsOf 9 = 1 := by kernel_rfl
theorem cellsA_op : Tryz.prog.cellsOf 34 = 3 := by kernel_rfl
theorem cellsA_names : Tryz.prog.cellsOf 66 = 4 := by kernel_rfl
theorem list3A {α : Type} {l : List α} (h : l.length = 3) : ∃ a b c, l = [a, b, c] := by
  match l, h with
  | [a, b, c], _ => exact ⟨a, b, c, rfl⟩
theorem list4A {α : Type} {l : List α} (h : l.length = 4) : ∃ a b c d, l = [a, b, c, d] := by
  match l, h with
  | [a, b, c, d], _ => exact ⟨a, b, c, d, rfl⟩
/-- THE LISTED VARIABLES, AND THE WORLD's SHAPE: what the walks ask of the library's variables. -/
theorem varsA_of {W : World} (h : laidMetH Tryz.prog Rows.shelvesRow.laid W) (hsh : W.ShapedOpen Tryz.prog) : Vars W := by
  refine ⟨Tryz.laysM145.s1_3 W hsh, ?_, ?_⟩
  · rw [MakeChecks.laidMetH_plain _ _ _ (by kernel_rfl)] at h
    obtain ⟨ps, ⟨_, _, _, _, _, _, _, _, _, _, ⟨_, _, _, _, _, _, _, _, _, _, ⟨_, _, _, _, _, _, _, _, _, _, ⟨_, _, _, _, _, _, _, _, _, _, ⟨_, _, _, _, _, _, _, _, _, _, ⟨g, t, cs, fuel, p, q, hg, ht, hv, hd, _, _⟩, _⟩, _⟩, _⟩, _⟩, _⟩, _, _⟩ := h
    obtain rfl := Option.some.inj (g_syntax.symm.trans hg)
    obtain rfl := Option.some.inj (t_syntax.symm.trans ht)
    exact iface_cell g_syntax hv hd
  · rw [MakeChecks.laidMetH_plain _ _ _ (by kernel_rfl)] at h
    obtain ⟨ps, ⟨_, _, _, _, _, _, _, _, _, _, ⟨_, _, _, _, _, _, _, _, _, _, ⟨_, _, _, _, _, _, _, _, _, _, ⟨_, _, _, _, _, _, _, _, _, _, ⟨g, t, cs, fuel, p, q, hg, ht, hv, hd, _, _⟩, _⟩, _⟩, _⟩, _⟩, _, _⟩ := h
    obtain rfl := Option.some.inj (g_range.symm.trans hg)
    obtain rfl := Option.some.inj (t_range.symm.trans ht)
    exact iface_cell g_range hv hd
theorem names_trod {W : World} {cs : Array Value} {fuel : Nat} {p : List MemPlace} (hv : W.var? Tryz.prog "folio/archive.names" = some cs) (hd : DataW.trod (fun _ => ()) Tryz.prog W 0 (fun _ => true) false fuel 66 cs.toList = some (Rows.laid_folio_archive_names, p)) : NamesV W := by
  obtain ⟨l⟩ := cs
  have hl : l.length = 4 := by
    obtain ⟨_, _, _, _, hcl, _⟩ := DataW.trod_array Tryz.underlying66 hd
    rw [cellsA_names] at hcl
    exact hcl
  obtain ⟨c0, c1, c2, c3, rfl⟩ := list4A hl
  obtain ⟨y0, y1, y2, y3, n, hx, f0, f1, f2, f3⟩ := trod_array4 Tryz.underlying66 cellsA_int hd
  obtain ⟨z0, e0, rfl, _⟩ := DataW.trod_int Tryz.underlying3 f0
  obtain ⟨z1, e1, rfl, _⟩ := DataW.trod_int Tryz.underlying3 f1
  obtain ⟨z2, e2, rfl, _⟩ := DataW.trod_int Tryz.underlying3 f2
  obtain ⟨z3, e3, rfl, _⟩ := DataW.trod_int Tryz.underlying3 f3
  simp [Rows.laid_folio_archive_names] at hx
  obtain ⟨⟨rfl, rfl, rfl, rfl⟩, _⟩ := hx
  simp at e0 e1 e2 e3
  subst e0; subst e1; subst e2; subst e3
  intro i hi
  have h := World.var?_cell g_names hv i
  rcases (show i = 0 ∨ i = 1 ∨ i = 2 ∨ i = 3 by omega) with rfl | rfl | rfl | rfl <;> simpa [nameT] using h
theorem namesA_of {W : World} (h : laidMetH Tryz.prog Rows.shelvesRow.laid W) : NamesV W := by
  rw [MakeChecks.laidMetH_plain _ _ _ (by kernel_rfl)] at h
  obtain ⟨ps, ⟨_, _, _, _, _, _, _, _, _, _, ⟨_, _, _, _, _, _, _, _, _, _, ⟨_, _, _, _, _, _, _, _, _, _, ⟨_, _, _, _, _, _, _, _, _, _, ⟨_, _, _, _, _, _, _, _, _, _, ⟨_, _, _, _, _, _, _, _, _, _, ⟨_, _, _, _, _, _, _, _, _, _, ⟨g, t, cs, fuel, p, q, hg, ht, hv, hd, _, _⟩, _⟩, _⟩, _⟩, _⟩, _⟩, _⟩, _⟩, _, _⟩ := h
  obtain rfl := Option.some.inj (g_names.symm.trans hg)
  obtain rfl := Option.some.inj (t_names.symm.trans ht)
  exact names_trod hv hd
set_option maxRecDepth 100000 in
theorem laidA_met (os : Os) (args : Array Value) : laidMet Tryz.prog Rows.shelvesRow.laid ((World.laidAll Tryz.prog os Rows.shelvesRow.laid).forCall (fun _ _ => 0) ⟨#[], args, []⟩).memory :=
  laidMet_laidAll _ (by kernel_rfl) (by kernel_rfl)
set_option maxRecDepth 100000 in
theorem laidA_shaped (os : Os) (args : Array Value) : ((World.laidAll Tryz.prog os Rows.shelvesRow.laid).forCall (fun _ _ => 0) ⟨#[], args, []⟩).Shaped Tryz.checked.prog :=
  World.shaped_of_ZipB (by kernel_rfl) (by kernel_rfl)
theorem gatherA {α β : Type} (R : Nat → β → α → Prop) : ∀ (es : List β) (k : Nat), (∀ i y, es[i]? = some y → ∃ x, R (k + i) y x) → ∃ l : List α, l.length = es.length ∧ ∀ i x, l[i]? = some x → ∃ y, es[i]? = some y ∧ R (k + i) y x
  | [], _, _ => ⟨[], rfl, fun i x hx => by simp at hx⟩
  | y :: es, k, h => by
    obtain ⟨x, hx⟩ := h 0 y rfl
    obtain ⟨l, hl, hc⟩ := gatherA R es (k + 1) (fun i z hz => by
      obtain ⟨x, hx⟩ := h (i + 1) z (by simpa using hz)
      exact ⟨x, by rw [show k + 1 + i = k + (i + 1) by omega]; exact hx⟩)
    refine ⟨x :: l, by simp [hl], fun i z hz => ?_⟩
    cases i with
    | zero =>
      simp only [List.getElem?_cons_zero, Option.some.injEq] at hz
      subst hz
      exact ⟨y, rfl, hx⟩
    | succ i =>
      obtain ⟨y', h1, h2⟩ := hc i z (by simpa using hz)
      exact ⟨y', by simpa using h1, by rw [show k + (i + 1) = k + 1 + i by omega]; exact h2⟩
theorem bytesA_op : Tryz.prog.bytesOf 34 = 32 := by kernel_rfl
set_option maxRecDepth 20000 in
/-- A script that came in. -/
theorem open_script {H : Type} {enc : TypeId × Value → H} {W : World} {fuel : Nat} {v : Value} {d : DataW H} {q : List MemPlace} {ts : List TypeId} {ds : List (DataW H)} (h : DataW.trod enc Tryz.prog W 0 (fun _ => true) true fuel 27 [v] = some (d, q)) (hsz : (DataW.weightsEach Tryz.prog ts ds).all (· ≤ reachBytes) = true) (ht : ts[0]? = some 27) (hd : ds[0]? = some d) : ∃ l, Scr W v l := by
  rcases DataW.trod_slice Tryz.underlying27 h with ⟨hcs, hx⟩ | ⟨a, len, cap, elems, rest, m, rfl, hcs, hx, _, hlc, hcm, hlen, hel, _, _⟩
  · obtain rfl : v = .slice none 0 0 := by simpa using hcs
    exact ⟨[], ⟨none, 0, rfl, fun i x hx => by simp at hx⟩, (fun x hx => nomatch hx), by simp⟩
  · obtain rfl : v = .slice (some a) len cap := by simpa using hcs
    simp only [Prod.mk.injEq] at hx
    obtain ⟨rfl, rfl⟩ := hx
    have hone : ∀ (i : Nat) (y : DataW H × List MemPlace), elems[i]? = some y → ∃ x : Opn, OpAt W (a.add (3 * (0 + i))) x ∧ OkOp x := fun i y hy => by
      have hi : i < len := by have := (List.getElem?_eq_some_iff.1 hy).1; omega
      have hb := (hel i hi).trans hy
      rw [cellsA_op, Option.bind_eq_some_iff] at hb
      obtain ⟨cs, hcs, htr⟩ := hb
      obtain ⟨_, hcl, hcc⟩ := World.cells?_some hcs
      obtain ⟨c0, c1, c2, rfl⟩ := list3A hcl
      obtain ⟨xs, m3, rfl, rfl, _, hxl, hfs⟩ := DataW.trod_struct Tryz.underlying34 htr
      obtain ⟨y0, y1, y2, rfl⟩ := list3A (l := xs) hxl
      have f0 : DataW.trod enc Tryz.prog W 0 (fun _ => true) true m3 3 (([c0, c1, c2].drop 0).take (Tryz.prog.cellsOf 3)) = some y0 := hfs 0 _ rfl
      have f1 : DataW.trod enc Tryz.prog W 0 (fun _ => true) true m3 3 (([c0, c1, c2].drop 1).take (Tryz.prog.cellsOf 3)) = some y1 := hfs 1 _ rfl
      have f2 : DataW.trod enc Tryz.prog W 0 (fun _ => true) true m3 9 (([c0, c1, c2].drop 2).take (Tryz.prog.cellsOf 9)) = some y2 := hfs 2 _ rfl
      rw [cellsA_int] at f0 f1
      rw [cellsA_str] at f2
      replace f0 : DataW.trod enc Tryz.prog W 0 (fun _ => true) true m3 3 [c0] = some y0 := f0
      replace f1 : DataW.trod enc Tryz.prog W 0 (fun _ => true) true m3 3 [c1] = some y1 := f1
      replace f2 : DataW.trod enc Tryz.prog W 0 (fun _ => true) true m3 9 [c2] = some y2 := f2
      obtain ⟨z, e0, rfl, wf0⟩ := DataW.trod_int Tryz.underlying3 f0
      obtain ⟨k, e1, rfl, wf1⟩ := DataW.trod_int Tryz.underlying3 f1
      obtain ⟨u, e2, rfl, hu⟩ := DataW.trod_string Tryz.underlying9 f2
      obtain rfl : c0 = .int .i64 z := by simpa using e0
      obtain rfl : c1 = .int .i64 k := by simpa using e1
      obtain rfl : c2 = .string u := by simpa using e2
      have g0 := hcc 0 (by omega)
      have g1 := hcc 1 (by omega)
      have g2 := hcc 2 (by omega)
      rw [Addr.add_zero'] at g0
      rw [Nat.zero_add, Nat.mul_comm]
      exact ⟨(z, k, u.data.toList), ⟨g0, g1, g2⟩, int_bd wf0, int_bd wf1, by show u.data.toList.length ≤ _; rw [len_list]; unfold maxLen at hu; omega⟩
    obtain ⟨l, hl, hc⟩ := gatherA (α := Opn) (fun i (_ : DataW H × List MemPlace) x => OpAt W (a.add (3 * i)) x ∧ OkOp x) elems 0 hone
    refine ⟨l, ⟨some a, cap, by rw [hl, hlen], fun i x hx => ?_⟩, fun x hx => ?_, ?_⟩
    · obtain ⟨y, _, h2, _⟩ := hc i x hx
      rw [Nat.zero_add] at h2
      exact ⟨a, rfl, by have := World.block_lt_of_cell? _ _ h2.1; rwa [add_block] at this, h2⟩
    · obtain ⟨i, hi⟩ := List.getElem?_of_mem hx
      obtain ⟨y, _, _, h2⟩ := hc i x hi
      exact h2
    · have hs := sized_slice hsz ht hd Tryz.underlying27
      rw [bytesA_op] at hs
      simp only [List.length_map, reachBytes] at hs
      omega
end Go.Proofs.YtaokifbpakbgdaaGreatDoor

/- Package folioref on archives: newest. -/
namespace Go.Proofs.YtaokifbpakbgdaaGreatDoor
open Go.RowKit

/-- Nothing behind place i has its name on the level. -/
def newestA {n : Nat} (A : List (List (El (n + 1)))) (i lvl : Nat) : Bool := (A.drop (i + 1)).all (fun o => decide (nm lvl o ≠ nm lvl (A.getD i [])))
theorem newestA_eq {n : Nat} {A : List (List (El (n + 1)))} {i lvl : Nat} (hi : i < A.length) : newestA A i lvl = (A.drop (i + 1)).all (fun o => decide (nm lvl o ≠ nm lvl A[i])) := by
  unfold newestA
  rw [List.getD_eq_getElem?_getD, List.getElem?_eq_getElem hi]
  rfl
set_option maxRecDepth 20000 in
set_option maxHeartbeats 2000000 in
theorem rnewest_any (n : Nat) (F : Nat → Prop) (w : World) (b : Nat) (A : List (List (El (n + 1)))) (i lvl : Nat) (h : RefA w F n b A) (hl : A.length ≤ 48) (hs : ∀ l ∈ A, l.length ≤ 24) (hi : i < A.length) (hlv : lvl < 4) :
    Calls Tryz.prog 167 #[ptr b, .int .i64 i, .int .i64 lvl] w fun e w' => e = .returned (.bool (newestA A i lvl)) ∧ Below w.heap.size w w' := by
  obtain ⟨v, hb, hr⟩ := h
  obtain ⟨ad, cap, rfl⟩ := hr.slice
  have H := hid hr
  have HS := hid hs
  have HB := hid hb
  have hb0 := hb.cell
  have HE := hid (newestA_eq (lvl := lvl) hi)
  obtain ⟨a, ad2, cap2, rfl, _, d0, hrd⟩ := hr.at (List.getElem?_eq_getElem hi)
  have hsl := hs _ (List.getElem_mem hi)
  have R0 := hid hrd
  clear hr hs hb hrd
  go_enter Tryz.func167, Tryz.ntmps167
  go_wp2_with fail
  go_at_call 100
  refine (rnames_any n F w _ A[i] R0.out hsl).mono ?_
  rintro e w1 ⟨g, capg, rfl, _, hN, u1⟩
  have N1 := hid hN
  have U1 := hid u1
  clear hN u1 hb0 d0 R0
  go_wp2_with fail
  go_loopw [8] (fun k wr => ∃ q : Nat, i < q ∧ q ≤ A.length ∧ k = .int .i64 q ∧ Hid (newestA A i lvl = (A.drop q).all (fun o => decide (nm lvl o ≠ nm lvl A[i]))) ∧ Hid (Below w1.heap.size w1 wr)) (fun k _ => A.length - (intOf k).toNat)
  case atStart => exact ⟨i + 1, by omega, by omega, by go_num, HE, Below.refl _ _⟩
  case round =>
    obtain ⟨q, hiq, hq, rfl, hE, hU⟩ := hrel
    have UU := hid (U1.out.trans (hU.out.mono U1.out.size))
    have hb1 := (HB.out.up UU.out).cell
    by_cases hql : q < A.length
    · obtain ⟨a', ad3, cap3, ha', _, d1, hrd⟩ := H.out.at (List.getElem?_eq_getElem hql)
      cases ha'
      have c0 := UU.out.cell (World.block_lt_of_cell? _ _ d1) |>.trans d1
      have hsq := HS.out _ (List.getElem_mem hql)
      have R1 := hid (hrd.up UU.out)
      clear hrd d1
      go_wp2_with fail
      go_at_call 100
      refine (rnames_any n F wr _ A[q] R1.out hsq).mono ?_
      rintro e w2 ⟨g2, capg2, rfl, _, hN2, u2⟩
      have n2 := hN2 lvl hlv
      have U2 := hid (hU.out.trans (u2.mono hU.out.size))
      have n1 := (N1.out.up U2.out) lvl hlv
      have hd : A.drop q = A[q] :: A.drop (q + 1) := List.drop_eq_getElem_cons hql
      have hE2 := hid (show newestA A i lvl = (decide (nm lvl A[q] ≠ nm lvl A[i]) && (A.drop (q + 1)).all (fun o => decide (nm lvl o ≠ nm lvl A[i]))) by rw [hE.out, hd, List.all_cons])
      clear hN2 u2 hb1 c0 R1 hd hE
      have ex := bs_toList (nm lvl A[q])
      have ey := bs_toList (nm lvl A[i])
      by_cases he : nm lvl A[q] = nm lvl A[i]
      · have hF := hid (show newestA A i lvl = false by rw [hE2.out, decide_eq_false (fun h => h he), Bool.false_and])
        clear hE2
        generalize nm lvl A[q] = x at n2 ex he
        generalize nm lvl A[i] = y at n1 ey he
        subst he
        go_wp2_with fail
        go_quiet (fail)
        go_wp2
        go_ret
        rw [hF.out]
        exact ⟨rfl, U1.out.trans ((below_drewN U2.out _).mono U1.out.size)⟩
      · have hF := hid (show newestA A i lvl = (A.drop (q + 1)).all (fun o => decide (nm lvl o ≠ nm lvl A[i])) by rw [hE2.out, decide_eq_true he, Bool.true_and])
        have he2 : (nm lvl A[q] == nm lvl A[i]) = false := beq_eq_false_iff_ne.2 he
        clear hE2
        generalize nm lvl A[q] = x at n2 ex he he2
        generalize nm lvl A[i] = y at n1 ey he he2
        go_wp2_with fail
        go_quiet (fail)
        go_wp2
        go_roundw
        case rel => exact ⟨q + 1, by omega, by omega, by go_num, hF, below_drewN U2.out _⟩
        case measure => simp [intOf]; omega
    · have hF := hid (show newestA A i lvl = true by rw [hE.out, List.drop_eq_nil_of_le (by omega)]; rfl)
      clear hE
      go_wp2
      go_ret
      rw [hF.out]
      exact ⟨rfl, UU.out⟩
end Go.Proofs.YtaokifbpakbgdaaGreatDoor

/- Package folioref on archives: plain. -/
namespace Go.Proofs.YtaokifbpakbgdaaGreatDoor
open Go.RowKit

/-- A byte that asks for more than one value. -/
def wildB (c : UInt8) : Bool := decide (c.toNat = 42) || decide (c.toNat = 63)
/-- A value, and no pattern. -/
def plainV (k s : By) : Bool := !s.any wildB && (decide (s ≠ []) && decide (chk k s = 0))
set_option maxRecDepth 20000 in
set_option maxHeartbeats 2000000 in
theorem rplain_any (k s : ByteArray) (w : World) (hs : s.size < 4294967281) :
    Calls Tryz.prog 222 #[.string k, .string s] w fun e w' => e = .returned (.bool (plainV k.data.toList s.data.toList)) ∧ Below w.heap.size w w' := by
  go_enter Tryz.func222, Tryz.ntmps222
  go_wp2_with fail
  go_at_call 14
  refine (rCheck_any k s w hs).mono ?_
  rintro e w1 ⟨rfl, u1⟩
  have U1 := hid u1
  have HP := hid (show plainV k.data.toList s.data.toList = (!s.data.toList.any wildB && (decide (s.data.toList ≠ []) && decide (chk k.data.toList s.data.toList = 0))) from rfl)
  clear u1
  generalize chk k.data.toList s.data.toList = c at HP ⊢
  go_wp2_with fail
  go_loop [6] (fun i => ∃ q : Nat, q ≤ s.size ∧ i = .int .i64 q ∧ Hid ((s.data.toList.take q).any wildB = false)) (fun i => s.size - (intOf i).toNat)
  case atStart => exact ⟨0, Nat.zero_le _, rfl, by unfold Hid; simp⟩
  case round =>
    obtain ⟨q, hq, rfl, hA⟩ := hrel
    by_cases hql : q < s.size
    · have hst : s.data.toList.take (q + 1) = s.data.toList.take q ++ [s[q]] := by
        rw [List.take_succ_eq_append_getElem (by simpa using hql)]
        rfl
      have HST := hid (show (s.data.toList.take (q + 1)).any wildB = wildB s[q] by rw [hst, List.any_append, hA.out, Bool.false_or]; simp)
      have hmem : s[q] ∈ s.data.toList := List.getElem_mem (l := s.data.toList) (by simpa using hql)
      have HM := hid (show wildB s[q] = true → s.data.toList.any wildB = true from fun h => List.any_eq_true.2 ⟨_, hmem, h⟩)
      clear hst hmem
      by_cases h42 : (s[q].toNat : Int) = 42
      · have hF := hid (show plainV k.data.toList s.data.toList = false by rw [HP.out, HM.out (by unfold wildB; rw [decide_eq_true (by omega)]; rfl)]; rfl)
        clear HM HST
        go_wp2
        go_ret
        rw [hF.out]
        exact ⟨rfl, U1.out⟩
      · by_cases h63 : (s[q].toNat : Int) = 63
        · have hF := hid (show plainV k.data.toList s.data.toList = false by rw [HP.out, HM.out (by unfold wildB; rw [decide_eq_true (p := s[q].toNat = 63) (by omega)]; simp)]; rfl)
          clear HM HST
          go_wp2
          go_ret
          rw [hF.out]
          exact ⟨rfl, U1.out⟩
        · have hF := hid (show (s.data.toList.take (q + 1)).any wildB = false by rw [HST.out]; unfold wildB; rw [decide_eq_false (by omega), decide_eq_false (by omega)]; rfl)
          clear HM HST
          have b42 : ((s[q].toNat : Int) == 42) = false := beq_eq_false_iff_ne.2 h42
          have b63 : ((s[q].toNat : Int) == 63) = false := beq_eq_false_iff_ne.2 h63
          go_wp2
          go_round
          case rel => exact ⟨q + 1, by omega, by go_num, hF⟩
          case measure => simp [intOf]; omega
    · have hall : s.data.toList.take q = s.data.toList := List.take_of_length_le (by simp; omega)
      have hF := hid (show plainV k.data.toList s.data.toList = (decide (s.data.toList ≠ []) && decide (c = 0)) by have := hA.out; rw [hall] at this; rw [HP.out, this]; simp)
      clear hA hall
      by_cases he : s.data.toList = []
      · obtain rfl : s = ⟨#[]⟩ := by cases s; simp at he; subst he; rfl
        go_wp2
        go_ret
        rw [hF.out]
        exact ⟨by simp, U1.out⟩
      · have he2 : s.toList.isEmpty = false := by rw [ByteArray.toList_eq, List.isEmpty_eq_false_iff]; exact he
        have hF2 := hid (show plainV k.data.toList s.data.toList = decide (c = 0) by rw [hF.out, decide_eq_true he, Bool.true_and])
        clear hF
        by_cases hc : c = 0
        · subst hc
          go_wp2
          go_ret
          rw [hF2.out]
          exact ⟨by simp, U1.out⟩
        · go_wp2
          go_ret
          rw [hF2.out]
          exact ⟨by simp [hc], U1.out⟩
end Go.Proofs.YtaokifbpakbgdaaGreatDoor

/- Package folioref on archives: decimal (of what is below 100). -/
namespace Go.Proofs.YtaokifbpakbgdaaGreatDoor
open Go.RowKit

/-- A digit; a number of two digits at most. -/
def digB (n : Nat) : UInt8 := 48 + UInt8.ofNat (n % 10)
def decB (n : Nat) : By := if n < 10 then [digB n] else [digB (n / 10), digB n]
set_option maxRecDepth 20000 in
theorem rdec_one (n : Nat) (w : World) (h : n < 10) : Calls Tryz.prog 266 #[.int .i64 n] w fun e w' => e = .returned (.string (bs [digB n])) ∧ Below w.heap.size w w' := by
  have cv := conv1 w (48 + (n : Int) % 10) (by omega) (by omega)
  have ez : (48 + (n : Int) % 10).toNat = 48 + n % 10 := by omega
  rw [ez] at cv
  have em : (n : Int).tmod 10 = (n : Int) % 10 := Int.tmod_eq_emod_of_nonneg (by omega)
  go_enter Tryz.func266, Tryz.ntmps266
  go_wp2
  go_ret
  exact ⟨rfl, Below.alloc (Below.refl _ _) (Nat.le_refl _) _⟩
set_option maxRecDepth 20000 in
theorem rdecimal_any (n : Nat) (w : World) (h : n < 100) : Calls Tryz.prog 266 #[.int .i64 n] w fun e w' => e = .returned (.string (bs (decB n))) ∧ Below w.heap.size w w' := by
  by_cases h10 : n < 10
  · unfold decB
    rw [if_pos h10]
    exact rdec_one n w h10
  · have hD := hid (show decB n = [digB (n / 10)] ++ [digB n] by unfold decB; rw [if_neg h10]; rfl)
    have cv := conv1 w (48 + (n : Int) % 10) (by omega) (by omega)
    have ez : (48 + (n : Int) % 10).toNat = 48 + n % 10 := by omega
    rw [ez] at cv
    have em : (n : Int).tmod 10 = (n : Int) % 10 := Int.tmod_eq_emod_of_nonneg (by omega)
    have ed : (n : Int).tdiv 10 = ((n / 10 : Nat) : Int) := by rw [Int.tdiv_eq_ediv_of_nonneg (by omega)]; rfl
    have C1 := hid (rdec_one (n / 10) (w.alloc (.cells #[.int .u8 (48 + (n : Int) % 10)] 5)) (by omega))
    obtain ⟨c, hc, hcc, _, _⟩ := cat [digB (n / 10)] [digB n]
    go_enter Tryz.func266, Tryz.ntmps266
    go_wp2_with fail
    go_at_call 266
    refine C1.out.mono ?_
    rintro e w' ⟨rfl, u⟩
    have U := hid ((Below.alloc (Below.refl _ _) (Nat.le_refl _) _).trans (u.mono (by simp)))
    clear u C1
    have hcc2 : bs [digB (n / 10)] ++ bs [48 + UInt8.ofNat (n % 10)] = bs c := hcc
    go_wp2
    go_ret
    rw [hD.out, ← hc.out]
    exact ⟨rfl, U.out⟩
end Go.Proofs.YtaokifbpakbgdaaGreatDoor

/- Package folioref on archives: level. -/
namespace Go.Proofs.YtaokifbpakbgdaaGreatDoor
open Go.RowKit

/-- The first of these levels that has this word; -1: none. -/
def lvI (m : Bool) (s : By) : List Nat → Int
  | [] => -1
  | i :: r => if m = true ∧ s = wordL i then i else lvI m s r
def levO {n : Nat} (l : List (El (n + 1))) : Int := match findE l 524370 with
  | none => -1
  | some x => lvI (decide (x.2.1 = [67, 83])) x.2.2.1 [0, 1, 2, 3]
theorem lvI_false (s : By) : ∀ r, lvI false s r = -1
  | [] => rfl
  | _ :: r => by rw [lvI, if_neg (by simp), lvI_false s r]
theorem drop4 {k : Nat} (h : k < 4) : [0, 1, 2, 3].drop k = k :: [0, 1, 2, 3].drop (k + 1) := by
  rcases (show k = 0 ∨ k = 1 ∨ k = 2 ∨ k = 3 by omega) with rfl | rfl | rfl | rfl <;> rfl
set_option maxRecDepth 20000 in
set_option maxHeartbeats 2000000 in
theorem rlevel_any (n : Nat) (F : Nat → Prop) (w : World) (v : Value) (l : List (El (n + 1))) (h : Rd w F (n + 1) v l) (hl : l.length ≤ 24) :
    Calls Tryz.prog 165 #[v] w fun e w' => e = .returned (.int .i64 (levO l)) ∧ Below w.heap.size w w' := by
  obtain ⟨ad, cap, rfl⟩ := h.slice
  have H := hid h
  clear h
  go_enter Tryz.func165, Tryz.ntmps165
  go_wp2_with fail
  go_at_call 220
  refine (rfind_any n F w _ l 524370 H.out hl).mono ?_
  rintro e w1 ⟨u1, hf⟩
  have hx : ∃ (t : Int) (kd vl : By) (iv : Value) (ok : Bool), e = .returned (.tuple #[.agg #[.int .i64 t, .string (bs kd), .string (bs vl), iv], .bool ok]) ∧ Hid (levO l = lvI (ok && decide (kd = [67, 83])) vl [0, 1, 2, 3]) ∧ ∃ ad2 n2 cap2, iv = .slice ad2 n2 cap2 := by
    rcases hf with ⟨h1, h2⟩ | ⟨x, iv, h1, h2, h3⟩
    · exact ⟨0, [], [], .slice none 0 0, false, h2, by unfold Hid levO; rw [h1, Bool.false_and, lvI_false], _, _, _, rfl⟩
    · obtain ⟨ad2, cap2, h4⟩ := h3.slice
      exact ⟨x.1, x.2.1, x.2.2.1, iv, true, h2, by unfold Hid levO; rw [h1, Bool.true_and], _, _, _, h4⟩
  obtain ⟨t, kd, vl, iv, ok, rfl, hL, ad2, n2, cap2, rfl⟩ := hx
  have U1 := hid u1
  clear hf u1 H
  go_wp2_with fail
  go_at_call 163
  refine (rRows_any _).mono ?_
  rintro e w2 ⟨b, rfl, hR, u2⟩
  have hb4 : w2.heap[w1.heap.size]? = some (.cells #[.int .i64 t, .string (bs kd), .string (bs vl), .slice ad2 n2 cap2] 73 (0, 0)) := (u2.block _ (by simp)).trans (heap_alloc_new _ _)
  have U2 := hid ((Below.alloc U1.out U1.out.size _).trans (u2.mono (Nat.le_trans U1.out.size (by simp))))
  have HR := hid hR
  have HB := hid hb4
  clear u2 hR hb4
  go_wp2_with fail
  go_loopw [6] (fun i wr => ∃ k : Nat, k ≤ 4 ∧ i = .int .i64 k ∧ Hid (levO l = lvI (ok && decide (kd = [67, 83])) vl ([0, 1, 2, 3].drop k)) ∧ Hid (Below w2.heap.size w2 wr)) (fun i _ => 4 - (intOf i).toNat)
  case atStart => exact ⟨0, by omega, rfl, hL, Below.refl _ _⟩
  case round =>
    obtain ⟨k, hk, rfl, hE, hU⟩ := hrel
    by_cases hkl : k < 4
    · obtain ⟨c, r0, _⟩ := HR.out.up hU.out k hkl
      have hB := (hU.out.block _ (lt_of_block HB.out)).trans HB.out
      have e1 : wr.cell? ⟨w1.heap.size, 1, none⟩ = some (.string (bs kd)) := by simp [World.cell?, hB]
      have e2 : wr.cell? ⟨w1.heap.size, 2, none⟩ = some (.string (bs vl)) := by simp [World.cell?, hB]
      have hE2 := hid (show levO l = if (ok && decide (kd = [67, 83])) = true ∧ vl = wordL k then (k : Int) else lvI (ok && decide (kd = [67, 83])) vl ([0, 1, 2, 3].drop (k + 1)) by rw [hE.out, drop4 hkl, lvI])
      clear hE hB
      have x1 := bs_toList kd
      have x2 := bs_toList vl
      have x3 := bs_toList (wordL k)
      generalize hw : wordL k = wd at r0 x3 hE2
      clear hw
      cases ok
      · have hF := hid (hE2.out.trans (if_neg (by simp)))
        go_wp2_with fail
        go_quiet (fail)
        go_wp2
        go_roundw
        case rel => exact ⟨k + 1, by omega, by go_num, hF, below_drewN hU.out _⟩
        case measure => simp [intOf]; omega
      · by_cases hkd : kd = [67, 83]
        · by_cases hv : vl = wd
          · have hF := hid (hE2.out.trans (if_pos ⟨by simp [hkd], hv⟩))
            clear hE2
            subst hkd; subst hv
            go_wp2_with fail
            go_quiet (fail)
            go_wp2
            go_ret
            rw [hF.out]
            exact ⟨rfl, U2.out.trans ((below_drewN hU.out _).mono U2.out.size)⟩
          · have hF := hid (hE2.out.trans (if_neg (fun h => hv h.2)))
            have hv2 : (vl == wd) = false := beq_eq_false_iff_ne.2 hv
            clear hE2
            subst hkd
            go_wp2_with fail
            go_quiet (fail)
            go_wp2
            go_roundw
            case rel => exact ⟨k + 1, by omega, by go_num, hF, below_drewN hU.out _⟩
            case measure => simp [intOf]; omega
        · have hF := hid (hE2.out.trans (if_neg (fun h => hkd (by simpa using h.1))))
          have hk2 : (kd == [67, 83]) = false := beq_eq_false_iff_ne.2 hkd
          clear hE2
          go_wp2_with fail
          go_quiet (fail)
          go_wp2
          go_roundw
          case rel => exact ⟨k + 1, by omega, by go_num, hF, below_drewN hU.out _⟩
          case measure => simp [intOf]; omega
    · obtain rfl : k = 4 := by omega
      have hF := hid (show levO l = -1 from hE.out)
      clear hE
      go_wp2
      go_ret
      rw [hF.out]
      exact ⟨rfl, U2.out.trans (hU.out.mono U2.out.size)⟩
end Go.Proofs.YtaokifbpakbgdaaGreatDoor

/- A pattern made of a text fits it, and not with a byte more behind it (no program). -/
namespace Go.Proofs.YtaokifbpakbgdaaGreatDoor
open Go.RowKit

def alphabet : Bs := [97, 98, 99, 65, 66, 67, 32, 120, 94, 49]
/-- Letters, and a z at the end. -/
def Lettered (l : Bs) : Prop := ∃ V : Bs, l = V ++ [122] ∧ V.length ≤ 40 ∧ ∀ c ∈ V, c ∈ alphabet
/-- The pattern p is made of the text, byte by byte. -/
def Made : Bs → Bs → Prop
  | [], p => p = []
  | x :: v, p => ∃ q r, p = q ++ r ∧ (q = [42] ∨ q = [63] ∨ q = [x] ∨ q = [42, x]) ∧ Made v r
theorem of_fin (p : UInt8 → Bool) (h : ∀ n : Fin 256, p (UInt8.ofNat n.val) = true) (c : UInt8) : p c = true := by
  have := h ⟨c.toNat, UInt8.toNat_lt c⟩
  simpa using this
theorem low_42 (c : UInt8) (h : Lib.lowerB c = 42) : c = 42 := by
  have := of_fin (fun c => !decide (Lib.lowerB c = 42) || decide (c = 42)) (by decide +kernel) c
  simpa [h] using this
/- What Match answers of a pattern that is made of letters. -/
/-- The bytes of patterns. -/
def Patterned (p : Bs) : Prop := ∀ c ∈ p, c ∈ alphabet ∨ c = 122 ∨ c = 42 ∨ c = 63 ∨ c = 49
end Go.Proofs.YtaokifbpakbgdaaGreatDoor

/- Patterns with * and ?, told from their ends: of each beginning of the pattern, which beginnings of the text it fits (no program). -/
namespace Go.Proofs.YtaokifbpakbgdaaGreatDoor

theorem glob_snoc (c x : UInt8) (hc : c ≠ 42) : ∀ (P V : Bs), glob (P ++ [c]) (V ++ [x]) = (glob P V && (decide (c = 63) || decide (c = x)))
  | [], [] => by rw [List.nil_append, List.nil_append, glob_cons c x [] [] hc, Bool.and_comm]
  | [], y :: V => by
    rw [List.nil_append, List.cons_append, glob_cons c y [] _ hc]
    have e1 : glob [] (V ++ [x]) = false := by cases V <;> rfl
    have e2 : glob [] (y :: V) = false := rfl
    rw [e1, e2, Bool.and_false, Bool.false_and]
  | d :: P, V => by
    by_cases hd : d = 42
    · subst hd
      rw [List.cons_append, Bool.eq_iff_iff, Bool.and_eq_true, glob_star, glob_star]
      constructor
      · rintro ⟨t, ht, h⟩
        by_cases hl : t ≤ V.length
        · rw [List.drop_append_of_le_length hl, glob_snoc c x hc P, Bool.and_eq_true] at h
          exact ⟨⟨t, hl, h.1⟩, h.2⟩
        · rw [List.drop_eq_nil_of_le (by simp; omega), glob_end] at h
          simp [hc] at h
      · rintro ⟨⟨t, ht, h⟩, hx⟩
        refine ⟨t, by simp; omega, ?_⟩
        rw [List.drop_append_of_le_length ht, glob_snoc c x hc P, h, hx]; rfl
    · cases V with
      | nil =>
        rw [List.cons_append, List.nil_append, glob_cons d x _ _ hd, glob_nil d P hd, glob_end]
        simp [hc]
      | cons y V => rw [List.cons_append, List.cons_append, glob_cons d y _ _ hd, glob_cons d y _ _ hd, glob_snoc c x hc P V, Bool.and_assoc]
theorem glob_snoc_star : ∀ (P V : Bs), glob (P ++ [42]) V = true ↔ ∃ j, j ≤ V.length ∧ glob P (V.take j) = true
  | [], V => by
    rw [List.nil_append, glob_star]
    exact ⟨fun _ => ⟨0, Nat.zero_le _, rfl⟩, fun _ => ⟨V.length, Nat.le_refl _, by rw [List.drop_eq_nil_of_le (Nat.le_refl _)]; rfl⟩⟩
  | d :: P, V => by
    by_cases hd : d = 42
    · subst hd
      rw [List.cons_append, glob_star]
      constructor
      · rintro ⟨t, ht, h⟩
        rw [glob_snoc_star P] at h
        obtain ⟨j, hj, h⟩ := h
        simp only [List.length_drop] at hj
        refine ⟨t + j, by omega, ?_⟩
        rw [glob_star]
        refine ⟨t, by simp; omega, ?_⟩
        rw [List.drop_take, show t + j - t = j by omega]
        exact h
      · rintro ⟨j, hj, h⟩
        rw [glob_star] at h
        obtain ⟨t, ht, h⟩ := h
        simp only [List.length_take] at ht
        refine ⟨t, by omega, ?_⟩
        rw [glob_snoc_star P]
        refine ⟨j - t, by simp; omega, ?_⟩
        rw [List.drop_take] at h
        exact h
    · cases V with
      | nil =>
        rw [List.cons_append, glob_nil d _ hd]
        simp [glob_nil d P hd]
      | cons y V =>
        rw [List.cons_append, glob_cons d y _ _ hd, Bool.and_eq_true, glob_snoc_star P V]
        constructor
        · rintro ⟨h1, j, hj, h2⟩
          refine ⟨j + 1, by simp; omega, ?_⟩
          rw [List.take_succ_cons, glob_cons d y _ _ hd, h1, h2]; rfl
        · rintro ⟨j, hj, h⟩
          cases j with
          | zero => rw [List.take_zero, glob_nil d P hd] at h; cases h
          | succ j =>
            rw [List.take_succ_cons, glob_cons d y _ _ hd, Bool.and_eq_true] at h
            exact ⟨h.1, j, by simp at hj; omega, h.2⟩
/-- Does the pattern fit the first k bytes? -/
def dp (P V : Bs) (k : Nat) : Bool := glob P (V.take k)
theorem dp_nil (V : Bs) (k : Nat) (hk : k ≤ V.length) : dp [] V k = decide (k = 0) := by
  unfold dp
  cases k with
  | zero => rfl
  | succ k =>
    cases V with
    | nil => simp at hk
    | cons y V => rfl
theorem dp_star (P V : Bs) (k : Nat) (hk : k ≤ V.length) : dp (P ++ [42]) V k = (dp P V k || (decide (0 < k) && dp (P ++ [42]) V (k - 1))) := by
  unfold dp
  rw [Bool.eq_iff_iff, glob_snoc_star]
  simp only [Bool.or_eq_true, Bool.and_eq_true, decide_eq_true_eq, glob_snoc_star, List.length_take, List.take_take]
  constructor
  · rintro ⟨j, hj, h⟩
    by_cases e : j = k
    · subst e; left; rwa [Nat.min_self] at h
    · right
      refine ⟨by omega, j, by omega, ?_⟩
      rw [show min j (k - 1) = j by omega]
      rwa [show min j k = j by omega] at h
  · rintro (h | ⟨h0, j, hj, h⟩)
    · exact ⟨k, by omega, by rwa [Nat.min_self]⟩
    · refine ⟨j, by omega, ?_⟩
      rw [show min j k = j by omega]
      rwa [show min j (k - 1) = j by omega] at h
theorem dp_zero (c : UInt8) (hc : c ≠ 42) (P V : Bs) : dp (P ++ [c]) V 0 = false := by
  unfold dp
  rw [List.take_zero, glob_end]
  simp [hc]
theorem dp_succ (c : UInt8) (hc : c ≠ 42) (P V : Bs) (k : Nat) (hk : k < V.length) : dp (P ++ [c]) V (k + 1) = (dp P V k && (decide (c = 63) || decide (c = V[k]))) := by
  unfold dp
  rw [List.take_succ_eq_append_getElem hk, glob_snoc c _ hc]
/-- A letter as a small one, where it is asked. -/
def fl (fold : Bool) (c : UInt8) : UInt8 := if fold then Lib.lowerB c else c
theorem low_63 (c : UInt8) : Lib.lowerB c = 63 ↔ c = 63 := by
  have := of_fin (fun c => decide (Lib.lowerB c = 63) == decide (c = 63)) (by decide +kernel) c
  simpa using this
theorem fl_42 (fold : Bool) (c : UInt8) : fl fold c = 42 ↔ c = 42 := by
  cases fold
  · exact Iff.rfl
  · exact ⟨fun h => low_42 c h, fun h => by rw [h]; rfl⟩
theorem fl_63 (fold : Bool) (c : UInt8) : fl fold c = 63 ↔ c = 63 := by
  cases fold
  · exact Iff.rfl
  · exact low_63 c
theorem low_up' (c : UInt8) (h1 : 65 ≤ c.toNat) (h2 : c.toNat ≤ 90) : UInt8.ofNat (c.toNat + 32) = Lib.lowerB c := by
  have := of_fin (fun c => !(decide (65 ≤ c.toNat) && decide (c.toNat ≤ 90)) || decide (UInt8.ofNat (c.toNat + 32) = Lib.lowerB c)) (by decide +kernel) c
  simpa [h1, h2] using this
theorem low_id' (c : UInt8) (h : ¬ (65 ≤ c.toNat ∧ c.toNat ≤ 90)) : Lib.lowerB c = c := by
  have := of_fin (fun c => (decide (65 ≤ c.toNat) && decide (c.toNat ≤ 90)) || decide (Lib.lowerB c = c)) (by decide +kernel) c
  have h' : (decide (65 ≤ c.toNat) && decide (c.toNat ≤ 90)) = false := by simp; omega
  rw [h', Bool.false_or, decide_eq_true_eq] at this
  exact this
end Go.Proofs.YtaokifbpakbgdaaGreatDoor
