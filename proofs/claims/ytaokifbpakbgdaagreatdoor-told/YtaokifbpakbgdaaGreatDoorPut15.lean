/-
  Several texts in one; what each one has stands at its head.
-/
import Derived.Test.YtaokifbpakbgdaaGreatDoorPut14
import Derived.Test.YtaokifbpakbgdaaGreatDoorPut11
import Derived.BigQuiet
import Derived.Test.YtaokifbpakbgdaaGreatDoorPut4
import Derived.Test.YtaokifbpakbgdaaGreatDoorPut3
import Derived.Test.YtaokifbpakbgdaaGreatDoorPut10
import Derived.Test.YtaokifbpakbgdaaGreatDoorPut5
import Derived.Test.YtaokifbpakbgdaaGreatDoorPut7
/- Package foliolaw on archives: the lists that came out, in memory; whole. -/
namespace Go.Proofs.YtaokifbpakbgdaaGreatDoor
open Go.RowKit

/-- A list that is written full with a text. -/
def LsAt (w : World) (G : Nat → Prop) (v : Value) (m : By) : Prop := ∃ ad len cap, v = .slice ad len cap ∧ len ≤ 100 ∧ ∀ k, k < len → ∃ g, ad = some ⟨g, 0, none⟩ ∧ G g ∧ w.cell? ⟨g, k, none⟩ = some (.string (bs m))
end Go.Proofs.YtaokifbpakbgdaaGreatDoor

/- 'append' to a row of one's own, the old list reading on; a cell of such a row written (no program). -/
namespace Go.Proofs.YtaokifbpakbgdaaGreatDoor
open Go.RowKit

theorem set_block {w : World} {g j : Nat} {xs : Array Value} {T : TypeId} (h : w.heap[g]? = some (.cells xs T (0, 0))) (u : Value) : (w.setCell ⟨g, j, none⟩ u).heap[g]? = some (.cells (xs.setIfInBounds j u) T (0, 0)) := by
  rw [setCell_eq_setRow w g j xs T (0, 0) u h]
  exact setRow_heap w g xs _ T _ h
end Go.Proofs.YtaokifbpakbgdaaGreatDoor

/- Package foliolaw on archives: keep. -/
namespace Go.Proofs.YtaokifbpakbgdaaGreatDoor
open Go.RowKit

/-- Where what came out lies, and what has been laid since. -/
def FrX (w : World) (v : Value) (j : Nat) : Prop := v.ownBlock = some j ∨ w.heap.size ≤ j
/-- A list of at most n marks. -/
def LX (w : World) (v : Value) (W : World) (m : By) (n : Nat) (u : Value) : Prop := LsAt W (fun j => FrX w v j ∧ j < W.heap.size) u m ∧ ∀ ad len cap, u = .slice ad len cap → len ≤ n
end Go.Proofs.YtaokifbpakbgdaaGreatDoor

/- Package foliolaw on archives: all, UpTo, All. -/
namespace Go.Proofs.YtaokifbpakbgdaaGreatDoor
open Go.RowKit

/-- The variables of the packages lie there. -/
def VarsL (w : World) : Prop := Vars w ∧ NamesV w ∧ LevelsV w ∧ CountsV w
end Go.Proofs.YtaokifbpakbgdaaGreatDoor

/- What the frames of All, Told, Filtered, Counts share: the words of the levels and the rows that are counted, from the listed variables; a short script. -/
namespace Go.Proofs.YtaokifbpakbgdaaGreatDoor
open Go.ChangeShapes Go.WideShapes Go.ChangeAt Go.RowKit

theorem g_levels : Tryz.prog.globalNamed "folio/archive.levels" = some 0 := by kernel_rfl
theorem t_levels : (Tryz.prog.globals[0]?).map (·.type) = some 58 := by kernel_rfl
theorem cellsA_levels : Tryz.prog.cellsOf 58 = 4 := by kernel_rfl
theorem g_counts : Tryz.prog.globalNamed "folio/archive.counts" = some 2 := by kernel_rfl
theorem t_counts : (Tryz.prog.globals[2]?).map (·.type) = some 217 := by kernel_rfl
theorem cellsA_counts : Tryz.prog.cellsOf 217 = 3 := by kernel_rfl
theorem levels_trod {W : World} {cs : Array Value} {fuel : Nat} {p : List MemPlace} (hv : W.var? Tryz.prog "folio/archive.levels" = some cs) (hd : DataW.trod (fun _ => ()) Tryz.prog W 0 (fun _ => true) false fuel 58 cs.toList = some (Rows.laid_folio_archive_levels, p)) : LevelsV W := by
  obtain ⟨l⟩ := cs
  have hl : l.length = 4 := by
    obtain ⟨_, _, _, _, hcl, _⟩ := DataW.trod_array Tryz.underlying58 hd
    rw [cellsA_levels] at hcl
    exact hcl
  obtain ⟨c0, c1, c2, c3, rfl⟩ := list4A hl
  obtain ⟨y0, y1, y2, y3, n, hx, f0, f1, f2, f3⟩ := trod_array4 Tryz.underlying58 cellsA_str hd
  obtain ⟨z0, e0, rfl, _⟩ := DataW.trod_string Tryz.underlying9 f0
  obtain ⟨z1, e1, rfl, _⟩ := DataW.trod_string Tryz.underlying9 f1
  obtain ⟨z2, e2, rfl, _⟩ := DataW.trod_string Tryz.underlying9 f2
  obtain ⟨z3, e3, rfl, _⟩ := DataW.trod_string Tryz.underlying9 f3
  obtain ⟨⟨z0⟩⟩ := z0
  obtain ⟨⟨z1⟩⟩ := z1
  obtain ⟨⟨z2⟩⟩ := z2
  obtain ⟨⟨z3⟩⟩ := z3
  simp [Rows.laid_folio_archive_levels] at hx
  obtain ⟨⟨rfl, rfl, rfl, rfl⟩, _⟩ := hx
  simp at e0 e1 e2 e3
  subst e0; subst e1; subst e2; subst e3
  intro i hi
  have h := World.var?_cell g_levels hv i
  rcases (show i = 0 ∨ i = 1 ∨ i = 2 ∨ i = 3 by omega) with rfl | rfl | rfl | rfl <;> simpa [wordL, bs] using h
theorem counts_trod {W : World} {cs : Array Value} {fuel : Nat} {p : List MemPlace} (hv : W.var? Tryz.prog "folio/archive.counts" = some cs) (hd : DataW.trod (fun _ => ()) Tryz.prog W 0 (fun _ => true) false fuel 217 cs.toList = some (Rows.laid_folio_archive_counts, p)) : CountsV W := by
  obtain ⟨l⟩ := cs
  have hl : l.length = 3 := by
    obtain ⟨_, _, _, _, hcl, _⟩ := DataW.trod_array Tryz.underlying217 hd
    rw [cellsA_counts] at hcl
    exact hcl
  obtain ⟨c0, c1, c2, rfl⟩ := list3A hl
  obtain ⟨y0, y1, y2, n, hx, f0, f1, f2⟩ := trod_array3 Tryz.underlying217 cellsA_int hd
  obtain ⟨z0, e0, rfl, _⟩ := DataW.trod_int Tryz.underlying3 f0
  obtain ⟨z1, e1, rfl, _⟩ := DataW.trod_int Tryz.underlying3 f1
  obtain ⟨z2, e2, rfl, _⟩ := DataW.trod_int Tryz.underlying3 f2
  simp [Rows.laid_folio_archive_counts] at hx
  obtain ⟨⟨rfl, rfl, rfl⟩, _⟩ := hx
  simp at e0 e1 e2
  subst e0; subst e1; subst e2
  intro i hi
  have h := World.var?_cell g_counts hv i
  rcases (show i = 0 ∨ i = 1 ∨ i = 2 by omega) with rfl | rfl | rfl <;> simpa [cntT] using h
theorem levelsA_of {W : World} (h : laidMetH Tryz.prog Rows.shelvesRow.laid W) : LevelsV W := by
  rw [MakeChecks.laidMetH_plain _ _ _ (by kernel_rfl)] at h
  obtain ⟨ps, ⟨_, _, _, _, _, _, _, _, _, _, ⟨_, _, _, _, _, _, _, _, _, _, ⟨_, _, _, _, _, _, _, _, _, _, ⟨_, _, _, _, _, _, _, _, _, _, ⟨_, _, _, _, _, _, _, _, _, _, ⟨_, _, _, _, _, _, _, _, _, _, ⟨g, t, cs, fuel, p, q, hg, ht, hv, hd, _, _⟩, _⟩, _⟩, _⟩, _⟩, _⟩, _⟩, _, _⟩ := h
  obtain rfl := Option.some.inj (g_levels.symm.trans hg)
  obtain rfl := Option.some.inj (t_levels.symm.trans ht)
  exact levels_trod hv hd
theorem countsA_of {W : World} (h : laidMetH Tryz.prog Rows.shelvesRow.laid W) : CountsV W := by
  rw [MakeChecks.laidMetH_plain _ _ _ (by kernel_rfl)] at h
  obtain ⟨ps, ⟨_, _, _, _, _, _, _, _, _, _, ⟨_, _, _, _, _, _, _, _, _, _, ⟨_, _, _, _, _, _, _, _, _, _, ⟨_, _, _, _, _, _, _, _, _, _, ⟨_, _, _, _, _, _, _, _, _, _, ⟨_, _, _, _, _, _, _, _, _, _, ⟨_, _, _, _, _, _, _, _, _, _, ⟨_, _, _, _, _, _, _, _, _, _, ⟨g, t, cs, fuel, p, q, hg, ht, hv, hd, _, _⟩, _⟩, _⟩, _⟩, _⟩, _⟩, _⟩, _⟩, _⟩, _, _⟩ := h
  obtain rfl := Option.some.inj (g_counts.symm.trans hg)
  obtain rfl := Option.some.inj (t_counts.symm.trans ht)
  exact counts_trod hv hd
theorem varsL_of {W : World} (h : laidMetH Tryz.prog Rows.shelvesRow.laid W) (hsh : W.ShapedOpen Tryz.prog) : VarsL W := ⟨varsA_of h hsh, namesA_of h, levelsA_of h, countsA_of h⟩
end Go.Proofs.YtaokifbpakbgdaaGreatDoor

/- Package foliokeep: digits, date, time (Ranges and the archives' statements lean on them). -/
namespace Go.Proofs.YtaokifbpakbgdaaGreatDoor
open Go.ChangeShapes Go.WideShapes Go.ChangeAt Go.RowKit

set_option maxRecDepth 20000 in
theorem kdigits_any (n : Nat) (k : Nat) (w : World) (hn : n < 10000) (hk : k ≤ 4) :
    Calls Tryz.prog 38 #[.int .i64 n, .int .i64 k] w fun e w' => (∃ s : ByteArray, e = .returned (.string s) ∧ Hid (s.data.toList = dgs k n)) ∧ Up w w' := by
  go_enter Tryz.func38, Tryz.ntmps38
  go_wp2
  go_loopw [5, 0, 6] (fun a b c wr => ∃ (s : ByteArray) (i m : Nat), a = .string s ∧ b = .int .i64 m ∧ c = .int .i64 i ∧ i ≤ k ∧ m ≤ n ∧ s.size ≤ i ∧ Hid (m = n / 10 ^ i ∧ s.data.toList = dgs i n) ∧ Up w wr) (fun _ _ c _ => k - (intOf c).toNat)
  case atStart => exact ⟨⟨#[]⟩, 0, n, rfl, rfl, rfl, by omega, by omega, by decide, ⟨by simp, rfl⟩, Up.refl _⟩
  case round =>
    obtain ⟨s, i, m, rfl, rfl, rfl, hi, hm, hs, hq, hup⟩ := hrel
    by_cases hlt : i < k
    · have cv := conv_one wr (48 + (m : Int) % 10) (by omega) (by omega)
      have hone := one_size (48 + (m : Int) % 10)
      go_wp2
      go_roundw
      case rel =>
        refine ⟨oneB (48 + (m : Int) % 10) ++ s, i + 1, m / 10, rfl, by go_num, by go_num, by omega, by omega, by rw [ByteArray.size_append, one_size]; omega, ⟨?_, ?_⟩, Up.alloc hup _⟩
        · rw [hq.out.1, Nat.div_div_eq_div_mul, Nat.pow_succ]
        · rw [data_append, one_data, hq.out.2, dgs, ← hq.out.1]
          have e : (48 + (m : Int) % 10).toNat = 48 + m % 10 := by omega
          rw [e]; rfl
      case measure => simp [intOf]; omega
    · go_wp2
      go_ret
      have e : i = k := by omega
      subst e
      exact ⟨⟨s, rfl, hq.out.2⟩, hup⟩

theorem kd4 (z : Int) (w : World) (h0 : 0 ≤ z) (h1 : z < 10000) :
    Calls Tryz.prog 38 #[.int .i64 z, .int .i64 4] w fun e w' => (∃ s : ByteArray, e = .returned (.string s) ∧ Hid (s.data.toList = dgs 4 z.toNat) ∧ s.size = 4) ∧ Up w w' := by
  obtain ⟨n, rfl⟩ : ∃ n : Nat, z = n := ⟨z.toNat, by omega⟩
  refine (kdigits_any n 4 w (by omega) (by omega)).mono ?_
  rintro e w' ⟨⟨s, rfl, hs⟩, hup⟩
  exact ⟨⟨s, rfl, hs, by rw [← len_list, hs.out, dgs_len]⟩, hup⟩
theorem kd2 (z : Int) (w : World) (h0 : 0 ≤ z) (h1 : z < 10000) :
    Calls Tryz.prog 38 #[.int .i64 z, .int .i64 2] w fun e w' => (∃ s : ByteArray, e = .returned (.string s) ∧ Hid (s.data.toList = dgs 2 z.toNat) ∧ s.size = 2) ∧ Up w w' := by
  obtain ⟨n, rfl⟩ : ∃ n : Nat, z = n := ⟨z.toNat, by omega⟩
  refine (kdigits_any n 2 w (by omega) (by omega)).mono ?_
  rintro e w' ⟨⟨s, rfl, hs⟩, hup⟩
  exact ⟨⟨s, rfl, hs, by rw [← len_list, hs.out, dgs_len]⟩, hup⟩
theorem tdiv_bd (x n : Int) (hn : n = 200 ∨ n = 2400) (h1 : -9223372036854775808 ≤ x) (h2 : x ≤ 9223372036854775807) : -9223372036854775808 ≤ x.tdiv n ∧ x.tdiv n ≤ 9223372036854775807 := by
  by_cases h : 0 ≤ x
  · rw [Int.tdiv_eq_ediv_of_nonneg h]
    rcases hn with rfl | rfl <;> omega
  · have e : x = -(-x) := by omega
    rw [e, Int.neg_tdiv, Int.tdiv_eq_ediv_of_nonneg (by omega)]
    rcases hn with rfl | rfl <;> omega
set_option maxHeartbeats 1000000 in
theorem date_any (x : Int) (w : World) (h1 : -9223372036854775808 ≤ x) (h2 : x ≤ 9223372036854775807) :
    Calls Tryz.prog 20 #[.int .i64 x] w fun e w' => (∃ (s : ByteArray) (y m d : Nat), e = .returned (.tuple #[.string s, .int .i64 (400 * y + 32 * m + d)]) ∧ Hid (s.data.toList = dateOf y m d) ∧ s.size = 8 ∧
      1900 ≤ y ∧ y ≤ 2099 ∧ 1 ≤ m ∧ m ≤ 12 ∧ 1 ≤ d ∧ d ≤ 28) ∧ Up w w' := by
  have p1 := vpk_bd x 200 (by omega)
  have p2 := vpk_bd (x.tdiv 200) 12 (by omega)
  have p3 := vpk_bd (x.tdiv 2400) 28 (by omega)
  have b2 : -9223372036854775808 ≤ x.tdiv 200 ∧ x.tdiv 200 ≤ 9223372036854775807 := tdiv_bd x 200 (Or.inl rfl) h1 h2
  have b3 : -9223372036854775808 ≤ x.tdiv 2400 ∧ x.tdiv 2400 ≤ 9223372036854775807 := tdiv_bd x 2400 (Or.inr rfl) h1 h2
  go_enter Tryz.func20, Tryz.ntmps20
  go_wp2_with fail
  go_at_call 24; refine (vpick_any _ _ _ h1 h2 (by omega) (by omega)).mono ?_; rintro e w1 ⟨rfl, rfl⟩
  generalize vpk x 200 = a at p1
  go_wp2_with fail
  go_at_call 24; refine (vpick_any _ _ _ b2.1 b2.2 (by omega) (by omega)).mono ?_; rintro e w1 ⟨rfl, rfl⟩
  generalize vpk (x.tdiv 200) 12 = b at p2
  go_wp2_with fail
  go_at_call 24; refine (vpick_any _ _ _ b3.1 b3.2 (by omega) (by omega)).mono ?_; rintro e w1 ⟨rfl, rfl⟩
  generalize vpk (x.tdiv 2400) 28 = c at p3
  clear b2 b3
  go_wp2_with fail
  go_at_call 38; refine (kd4 _ _ (by omega) (by omega)).mono ?_; rintro e w1 ⟨⟨s1, rfl, e1, l1⟩, u1⟩
  go_wp2_with fail
  go_at_call 38; refine (kd2 _ _ (by omega) (by omega)).mono ?_; rintro e w2 ⟨⟨s2, rfl, e2, l2⟩, u2⟩
  go_wp2_with fail
  go_at_call 38; refine (kd2 _ _ (by omega) (by omega)).mono ?_; rintro e w3 ⟨⟨s3, rfl, e3, l3⟩, u3⟩
  have l12 : (s1 ++ s2).size = 6 := by rw [ByteArray.size_append]; omega
  go_wp2_with fail
  go_ret2
  refine ⟨⟨s1 ++ s2 ++ s3, (a + 1900).toNat, (b + 1).toNat, (c + 1).toNat, ?_, ?_, by rw [ByteArray.size_append]; omega, by omega, by omega, by omega, by omega, by omega, by omega⟩, (u1.trans u2).trans u3⟩
  · have : 400 * (a + 1900) + 32 * (b + 1) + (c + 1) = 400 * (((a + 1900).toNat : Nat) : Int) + 32 * (((b + 1).toNat : Nat) : Int) + (((c + 1).toNat : Nat) : Int) := by omega
    rw [← this]; rfl
  · unfold Hid
    rw [data_append, data_append, e1.out, e2.out, e3.out]; rfl

set_option maxHeartbeats 1000000 in
theorem time_any (x : Int) (w : World) (h1 : -9223372036854775808 ≤ x) (h2 : x ≤ 9223372036854775807) :
    Calls Tryz.prog 22 #[.int .i64 x] w fun e w' => (∃ (s : ByteArray) (n : Nat), e = .returned (.tuple #[.string s, .int .i64 n]) ∧ Hid (s.data.toList = timeOf n) ∧ s.size = 6 ∧ n < 86400) ∧ Up w w' := by
  have p1 := vpk_bd x 86400 (by omega)
  go_enter Tryz.func22, Tryz.ntmps22
  go_wp2_with fail
  go_at_call 24; refine (vpick_any _ _ _ h1 h2 (by omega) (by omega)).mono ?_; rintro e w1 ⟨rfl, rfl⟩
  generalize vpk x 86400 = a at p1
  obtain ⟨n, rfl⟩ : ∃ n : Nat, a = n := ⟨a.toNat, by omega⟩
  go_wp2_with fail
  go_at_call 38; refine (kd2 _ _ (by omega) (by omega)).mono ?_; rintro e w1 ⟨⟨s1, rfl, e1, l1⟩, u1⟩
  go_wp2_with fail
  go_at_call 38; refine (kd2 _ _ (by omega) (by omega)).mono ?_; rintro e w2 ⟨⟨s2, rfl, e2, l2⟩, u2⟩
  go_wp2_with fail
  go_at_call 38; refine (kd2 _ _ (by omega) (by omega)).mono ?_; rintro e w3 ⟨⟨s3, rfl, e3, l3⟩, u3⟩
  have l12 : (s1 ++ s2).size = 4 := by rw [ByteArray.size_append]; omega
  go_wp2_with fail
  go_ret2
  refine ⟨⟨s1 ++ s2 ++ s3, n, rfl, ?_, by rw [ByteArray.size_append]; omega, by omega⟩, (u1.trans u2).trans u3⟩
  unfold Hid
  rw [data_append, data_append, e1.out, e2.out, e3.out]; rfl
end Go.Proofs.YtaokifbpakbgdaaGreatDoor

/- Package foliokeep: letters, raw (Wild and the archives' statements lean on them). -/
namespace Go.Proofs.YtaokifbpakbgdaaGreatDoor
open Go.ChangeShapes Go.WideShapes Go.ChangeAt Go.RowKit

/-- A list of integers that came in. -/
def Ints (w : World) (b off len : Nat) (Z : Nat → Int) : Prop := ∀ j, j < len → w.cell? ⟨b, off + j, none⟩ = some (.int .i64 (Z j)) ∧ -9223372036854775808 ≤ Z j ∧ Z j ≤ 9223372036854775807
theorem Ints.up {w w' : World} {b off len : Nat} {Z : Nat → Int} (h : Ints w b off len Z) (k : Up w w') : Ints w' b off len Z := fun j hj => ⟨k.cell (h j hj).1, (h j hj).2⟩
theorem ofNat_byte (c : UInt8) : UInt8.ofNat ((c.toNat : Int)).toNat = c := by simp
theorem alpha_snoc (s : ByteArray) (z : Int) (h : Hid (∀ c ∈ s.data.toList, c ∈ alphabet)) (hz : UInt8.ofNat z.toNat ∈ alphabet) : Hid (∀ c ∈ (s ++ oneB z).data.toList, c ∈ alphabet) := by
  intro c hc
  rw [data_append, one_data, List.mem_append, List.mem_singleton] at hc
  rcases hc with hc | rfl
  · exact h.out c hc
  · exact hz
theorem lettered_mk (s : ByteArray) (hs : s.size ≤ 40) (h : Hid (∀ c ∈ s.data.toList, c ∈ alphabet)) : Hid (Lettered (s ++ ⟨#[122]⟩).data.toList) :=
  ⟨s.data.toList, by rw [data_append], by rw [len_list]; exact hs, h.out⟩
end Go.Proofs.YtaokifbpakbgdaaGreatDoor

/- Package foliokeep on archives: tags, kinds, words. -/
namespace Go.Proofs.YtaokifbpakbgdaaGreatDoor
open Go.RowKit
theorem ktags_any (w : World) : Calls Tryz.prog 27 #[] w fun e w' => e = .returned (.agg #[.int .i64 1048608, .int .i64 2097165, .int .i64 2097166, .int .i64 524312]) ∧ Below w.heap.size w w' := by
  go_enter Tryz.func27, Tryz.ntmps27
  go_wp2
  refine bodyPost_ret (v := .agg #[.int .i64 1048608, .int .i64 2097165, .int .i64 2097166, .int .i64 524312]) (by simp [results, Tryz.results27, go_sem]) rfl ?_
  exact ⟨rfl, Below.alloc (Below.refl _ _) (Nat.le_refl _) _⟩
theorem kkinds_any (w : World) : Calls Tryz.prog 28 #[] w fun e w' => e = .returned (.agg #[.string ⟨#[76, 79]⟩, .string ⟨#[85, 73]⟩, .string ⟨#[85, 73]⟩, .string ⟨#[85, 73]⟩]) ∧ Below w.heap.size w w' := by
  go_enter Tryz.func28, Tryz.ntmps28
  go_wp2
  refine bodyPost_ret (v := .agg #[.string ⟨#[76, 79]⟩, .string ⟨#[85, 73]⟩, .string ⟨#[85, 73]⟩, .string ⟨#[85, 73]⟩]) (by simp [results, Tryz.results28, go_sem]) rfl ?_
  exact ⟨rfl, Below.alloc (Below.refl _ _) (Nat.le_refl _) _⟩
theorem kwords_any (w : World) : Calls Tryz.prog 34 #[] w fun e w' => ∃ b, e = .returned (.slice (some ⟨b, 0, none⟩) 4 4) ∧ w.heap.size ≤ b ∧ (∀ i, i < 4 → w'.cell? ⟨b, i, none⟩ = some (.string (bs (wordL i)))) ∧ Below w.heap.size w w' := by
  go_enter Tryz.func34, Tryz.ntmps34
  go_wp2
  go_ret
  refine ⟨w.heap.size, rfl, Nat.le_refl _, fun i hi => ?_, Below.alloc (Below.refl _ _) (Nat.le_refl _) _⟩
  unfold World.cell?
  simp only
  rw [heap_alloc_new]
  rcases (show i = 0 ∨ i = 1 ∨ i = 2 ∨ i = 3 by omega) with rfl | rfl | rfl | rfl <;> rfl
end Go.Proofs.YtaokifbpakbgdaaGreatDoor

/- Elements by their tags: what foliokeep's sorted gives (no program). -/
namespace Go.Proofs.YtaokifbpakbgdaaGreatDoor

/-- How far an element of that tag sinks from place k. -/
def sink {n : Nat} (o : List (El (n + 1))) (t : Int) : Nat → Nat
  | 0 => 0
  | k + 1 => match o[k]? with
    | some y => if t < y.1 then sink o t k else k + 1
    | none => k + 1
def insE {n : Nat} (o : List (El (n + 1))) (x : El (n + 1)) : List (El (n + 1)) := o.take (sink o x.1 o.length) ++ x :: o.drop (sink o x.1 o.length)
def srtE {n : Nat} (l : List (El (n + 1))) : List (El (n + 1)) := l.foldl insE []
theorem sink_step {n : Nat} {o : List (El (n + 1))} {t : Int} {k : Nat} {y : El (n + 1)} (h : o[k]? = some y) (ht : t < y.1) : sink o t (k + 1) = sink o t k := by rw [sink, h]; exact if_pos ht
theorem sink_stop {n : Nat} {o : List (El (n + 1))} {t : Int} {k : Nat} {y : El (n + 1)} (h : o[k]? = some y) (ht : ¬ t < y.1) : sink o t (k + 1) = k + 1 := by rw [sink, h]; exact if_neg ht
theorem insE_perm {n : Nat} (o : List (El (n + 1))) (x : El (n + 1)) : (insE o x).Perm (x :: o) := by
  unfold insE
  generalize sink o x.1 o.length = k
  refine (List.perm_middle).trans ?_
  rw [List.take_append_drop]
theorem fold_perm {n : Nat} : ∀ (l o : List (El (n + 1))), (l.foldl insE o).Perm (o ++ l)
  | [], o => by simp
  | x :: l, o => by
    rw [List.foldl_cons]
    refine (fold_perm l _).trans ?_
    refine ((insE_perm o x).append_right l).trans ?_
    rw [List.cons_append]
    exact List.perm_middle.symm
theorem srtE_perm {n : Nat} (l : List (El (n + 1))) : (srtE l).Perm l := fold_perm l []
theorem srtE_len {n : Nat} (l : List (El (n + 1))) : (srtE l).length = l.length := (srtE_perm l).length_eq
/-- What lies from where it sinks to is greater, what lies below is not, where all is rising. -/
theorem sink_hi {n : Nat} {o : List (El (n + 1))} {t : Int} : ∀ (k j : Nat), sink o t k ≤ j → j < k → ∀ y, o[j]? = some y → t < y.1
  | 0, j, _, hj, _, _ => by omega
  | k + 1, j, h, hj, y, hy => by
    rw [sink] at h
    cases hk : o[k]? with
    | none =>
      rw [List.getElem?_eq_none_iff] at hk
      have := (List.getElem?_eq_some_iff.1 hy).1
      rw [List.getElem?_eq_none_iff.2 hk] at h
      simp only at h
      omega
    | some z =>
      rw [hk] at h
      simp only at h
      by_cases ht : t < z.1
      · rw [if_pos ht] at h
        by_cases e : j = k
        · subst e; rw [hk] at hy; cases hy; exact ht
        · exact sink_hi k j h (by omega) y hy
      · rw [if_neg ht] at h; omega
theorem sink_lo {n : Nat} {o : List (El (n + 1))} {t : Int} : ∀ (k : Nat), k ≤ o.length → ∀ i, sink o t k = i + 1 → ∃ y, o[i]? = some y ∧ ¬ t < y.1
  | 0, _, i, h => by simp [sink] at h
  | k + 1, hk, i, h => by
    have hlt : k < o.length := by omega
    rw [sink, List.getElem?_eq_getElem hlt] at h
    simp only at h
    by_cases ht : t < o[k].1
    · rw [if_pos ht] at h; exact sink_lo k (by omega) i h
    · rw [if_neg ht] at h
      have : i = k := by omega
      subst this
      exact ⟨_, List.getElem?_eq_getElem hlt, ht⟩
/-- Rising tags. -/
def Rise {n : Nat} (l : List (El (n + 1))) : Prop := l.Pairwise (fun a b => a.1 < b.1)
theorem insE_rise {n : Nat} {o : List (El (n + 1))} {x : El (n + 1)} (h : Rise o) (hx : ∀ y ∈ o, y.1 ≠ x.1) : Rise (insE o x) := by
  unfold insE
  have hlo : ∀ y ∈ o.take (sink o x.1 o.length), y.1 < x.1 := by
    intro y hy
    obtain ⟨j, hj, rfl⟩ := List.mem_iff_getElem.1 hy
    rw [List.length_take] at hj
    rw [List.getElem_take]
    have hjl : j < o.length := by omega
    obtain ⟨i, hi⟩ : ∃ i, sink o x.1 o.length = i + 1 := ⟨sink o x.1 o.length - 1, by omega⟩
    obtain ⟨z, hz, hn⟩ := sink_lo o.length (Nat.le_refl _) i hi
    have hne := hx z (List.mem_of_getElem? hz)
    have hz2 := List.getElem?_eq_some_iff.1 hz
    by_cases e : j = i
    · subst e; rw [hz2.2]; omega
    · have := List.pairwise_iff_getElem.1 h j i hjl hz2.1 (by omega)
      rw [hz2.2] at this
      omega
  have hhi : ∀ y ∈ o.drop (sink o x.1 o.length), x.1 < y.1 := by
    intro y hy
    obtain ⟨j, hj, rfl⟩ := List.mem_iff_getElem.1 hy
    rw [List.length_drop] at hj
    rw [List.getElem_drop]
    exact sink_hi o.length _ (by omega) (by omega) _ (List.getElem?_eq_getElem (by omega))
  refine List.pairwise_append.2 ⟨h.sublist (List.take_sublist _ _), List.pairwise_cons.2 ⟨hhi, h.sublist (List.drop_sublist _ _)⟩, fun a ha b hb => ?_⟩
  rcases List.mem_cons.1 hb with rfl | hb
  · exact hlo a ha
  · have := hlo a ha; have := hhi b hb; omega
theorem fold_rise {n : Nat} : ∀ (l o : List (El (n + 1))), Rise o → (l.map (·.1)).Nodup → (∀ x ∈ l, ∀ y ∈ o, y.1 ≠ x.1) → Rise (l.foldl insE o)
  | [], o, h, _, _ => h
  | x :: l, o, h, hn, hd => by
    rw [List.foldl_cons]
    rw [List.map_cons, List.nodup_cons] at hn
    refine fold_rise l _ (insE_rise h (hd x List.mem_cons_self)) hn.2 (fun z hz y hy => ?_)
    rcases List.mem_cons.1 ((insE_perm o x).mem_iff.1 hy) with rfl | hy
    · exact fun e => hn.1 (e ▸ List.mem_map_of_mem hz)
    · exact hd z (List.mem_cons_of_mem _ hz) y hy
theorem srtE_rise {n : Nat} {l : List (El (n + 1))} (h : (l.map (·.1)).Nodup) : Rise (srtE l) := fold_rise l [] List.Pairwise.nil h (fun _ _ _ hy => by cases hy)
/-- With tags that stand once each, an element is found wherever it stands. -/
theorem findE_iff {n : Nat} : ∀ {l : List (El (n + 1))}, (l.map (·.1)).Nodup → ∀ {t : Int} {x : El (n + 1)}, findE l t = some x ↔ x ∈ l ∧ x.1 = t
  | [], _, t, x => by simp [findE]
  | y :: l, h, t, x => by
    rw [List.map_cons, List.nodup_cons] at h
    have ih := findE_iff h.2 (t := t) (x := x)
    by_cases e : y.1 = t
    · have : findE (y :: l) t = some y := by unfold findE; rw [List.find?_cons_of_pos (by simpa using e)]
      rw [this]
      constructor
      · intro q; injection q with q; subst q; exact ⟨List.mem_cons_self, e⟩
      · rintro ⟨hm, hx⟩
        rcases List.mem_cons.1 hm with rfl | hm
        · rfl
        · exact absurd (List.mem_map_of_mem (f := (·.1)) hm) (by rw [hx, ← e]; exact h.1)
    · have : findE (y :: l) t = findE l t := by unfold findE; rw [List.find?_cons_of_neg (by simpa using e)]
      rw [this, ih]
      constructor
      · rintro ⟨hm, hx⟩; exact ⟨List.mem_cons_of_mem _ hm, hx⟩
      · rintro ⟨hm, hx⟩
        rcases List.mem_cons.1 hm with rfl | hm
        · exact absurd hx e
        · exact ⟨hm, hx⟩
theorem findE_perm {n : Nat} {l l' : List (El (n + 1))} (hp : l'.Perm l) (h : (l.map (·.1)).Nodup) (t : Int) : findE l' t = findE l t := by
  have h' : (l'.map (·.1)).Nodup := ((hp.map _).nodup_iff).2 h
  cases hf : findE l t with
  | some x => exact (findE_iff h').2 ⟨hp.mem_iff.2 ((findE_iff h).1 hf).1, ((findE_iff h).1 hf).2⟩
  | none =>
    cases hf' : findE l' t with
    | none => rfl
    | some x =>
      have := (findE_iff h).2 ⟨hp.mem_iff.1 ((findE_iff h').1 hf').1, ((findE_iff h').1 hf').2⟩
      rw [hf] at this
      cases this
theorem textE_srt {n : Nat} {l : List (El (n + 1))} (h : (l.map (·.1)).Nodup) (t : Int) : textE (srtE l) t = textE l t := by unfold textE; rw [findE_perm (srtE_perm l) h]
end Go.Proofs.YtaokifbpakbgdaaGreatDoor

/- Package foliokeep on archives: sorted. -/
namespace Go.Proofs.YtaokifbpakbgdaaGreatDoor
open Go.RowKit

theorem own_setB {w : World} {T : TypeId} {base size g n cap j : Nat} {xs : List Value} (h : w.ownsRow base T size (.slice (some ⟨g, 0, none⟩) n cap) n xs) (u : Value) : (w.setCell ⟨g, j, none⟩ u).ownsRow base T size (.slice (some ⟨g, 0, none⟩) n cap) n (xs.set j u) := by
  obtain ⟨k1, k2⟩ := h
  refine ⟨by rw [List.length_set]; exact k1, Or.inr ?_⟩
  rcases k2 with ⟨q, _⟩ | ⟨g', cap', cur, q, q3, q4, q5, q6, q7, q8⟩
  · cases q
  injection q with q1 _ q3'
  injection q1 with q1
  injection q1 with q1
  subst q1
  subst q3'
  refine ⟨g, cap, cur.setIfInBounds j u, rfl, q3, set_block q4 u, q5, q6, by simpa using q7, ?_⟩
  rw [Array.toList_setIfInBounds, List.take_set, q8]
theorem own_some {w : World} {T : TypeId} {base size n : Nat} {v : Value} {xs : List Value} (h : w.ownsRow base T size v (n + 1) xs) : ∃ g cap, v = .slice (some ⟨g, 0, none⟩) (n + 1) cap ∧ base ≤ g := by
  obtain ⟨k1, k2⟩ := h
  rcases k2 with ⟨_, q⟩ | ⟨g', cap', cur, q, q3, _⟩
  · cases q
  · exact ⟨g', cap', q, q3⟩
/-- The cells of a thing of a row, written anew. -/
def set4 (xs : List Value) (j : Nat) (c0 c1 c2 c3 : Value) : List Value := (((xs.set j c0).set (j + 1) c1).set (j + 2) c2).set (j + 3) c3
theorem set4_tail (a0 a1 a2 a3 : Value) (ys : List Value) (j : Nat) (c0 c1 c2 c3 : Value) : set4 (a0 :: a1 :: a2 :: a3 :: ys) (j + 4) c0 c1 c2 c3 = a0 :: a1 :: a2 :: a3 :: set4 ys j c0 c1 c2 c3 := by
  unfold set4
  rw [show j + 4 = j + 1 + 1 + 1 + 1 by omega, show j + 1 + 1 + 1 + 1 + 1 = j + 1 + 1 + 1 + 1 + 1 from rfl]
  rfl
theorem Ls.set4 {α : Type} {R : List Value → α → List Nat → Prop} {c0 c1 c2 c3 : Value} {y : α} (hy : R [c0, c1, c2, c3] y []) : ∀ {l : List α} {xs : List Value} {k : Nat}, Ls 4 R xs l [] → k < l.length → Ls 4 R (Go.Proofs.YtaokifbpakbgdaaGreatDoor.set4 xs (k * 4) c0 c1 c2 c3) (l.set k y) []
  | [], _, _, _, h => by simp at h
  | x :: l, xs, k, h, hk => by
    obtain ⟨c, ys, b, cs, rfl, e2, h1, h2, e3⟩ := h
    obtain ⟨rfl, rfl⟩ := List.append_eq_nil_iff.1 e3.symm
    match c, e2 with
    | [a0, a1, a2, a3], _ =>
      cases k with
      | zero => exact ⟨[c0, c1, c2, c3], ys, [], [], by rw [Nat.zero_mul]; rfl, rfl, hy, h2, rfl⟩
      | succ k =>
        refine ⟨[a0, a1, a2, a3], Go.Proofs.YtaokifbpakbgdaaGreatDoor.set4 ys (k * 4) c0 c1 c2 c3, [], [], ?_, rfl, h1, Ls.set4 hy h2 (by simpa using hk), rfl⟩
        rw [Nat.succ_mul]
        exact set4_tail a0 a1 a2 a3 ys (k * 4) c0 c1 c2 c3
theorem own_set4 {w : World} {T : TypeId} {base size g n cap j : Nat} {xs : List Value} (h : w.ownsRow base T size (.slice (some ⟨g, 0, none⟩) n cap) n xs) (c0 c1 c2 c3 : Value) :
    ((((w.setCell ⟨g, j, none⟩ c0).setCell ⟨g, j + 1, none⟩ c1).setCell ⟨g, j + 2, none⟩ c2).setCell ⟨g, j + 3, none⟩ c3).ownsRow base T size (.slice (some ⟨g, 0, none⟩) n cap) n (set4 xs j c0 c1 c2 c3) :=
  own_setB (own_setB (own_setB (own_setB h c0) c1) c2) c3
theorem ins_shift {α : Type} {o : List α} {k : Nat} {y z : α} (hz : o[k]? = some z) : (o.take (k + 1) ++ y :: o.drop (k + 1)).set (k + 1) z = o.take k ++ z :: o.drop k := by
  have hk := (List.getElem?_eq_some_iff.1 hz).1
  have e := (List.getElem?_eq_some_iff.1 hz).2
  have hl : (o.take (k + 1)).length = k + 1 := by rw [List.length_take]; omega
  rw [List.set_append_right _ _ (by omega), hl, Nat.sub_self, List.set_cons_zero, List.take_succ_eq_append_getElem hk, List.append_assoc, List.drop_eq_getElem_cons hk, e]
  rfl
theorem ins_put {α : Type} {o : List α} {k : Nat} {y z : α} (hk : k ≤ o.length) : (o.take k ++ y :: o.drop k).set k z = o.take k ++ z :: o.drop k := by
  have hl : (o.take k).length = k := by rw [List.length_take]; omega
  rw [List.set_append_right _ _ (by omega), hl, Nat.sub_self, List.set_cons_zero]
theorem ins_at {α : Type} {o : List α} {k : Nat} {y z : α} (hz : o[k]? = some z) : (o.take (k + 1) ++ y :: o.drop (k + 1))[k]? = some z := by
  have hk := (List.getElem?_eq_some_iff.1 hz).1
  rw [List.getElem?_append_left (by rw [List.length_take]; omega), List.getElem?_take_of_lt (by omega)]
  exact hz
/-- The cells of an element of a row that was copied. -/
theorem cp_at {w W : World} {F : Nat → Prop} {n : Nat} {base g N cap : Nat} {xs : List Value} {l : List (El (n + 1))} (ho : W.ownsRow base 73 4 (.slice (some ⟨g, 0, none⟩) N cap) N xs) (hl : Ls 4 (CpE w F n) xs l []) {k : Nat} {x : El (n + 1)} (hx : l[k]? = some x) :
    ∃ iv, W.cell? ⟨g, k * 4, none⟩ = some (.int .i64 x.1) ∧ W.cell? ⟨g, k * 4 + 1, none⟩ = some (.string (bs x.2.1)) ∧ W.cell? ⟨g, k * 4 + 2, none⟩ = some (.string (bs x.2.2.1)) ∧ W.cell? ⟨g, k * 4 + 3, none⟩ = some iv ∧ RdI w F n iv x.2.2.2 := by
  obtain ⟨c, b, ⟨_, iv, rfl, hr⟩, _, _, h4⟩ := hl.at k x hx
  have hk := (List.getElem?_eq_some_iff.1 hx).1
  have hN : xs.length = N * 4 := ho.1
  have hL := hl.length
  refine ⟨iv, ?_, ?_, ?_, ?_, hr⟩
  · rw [ho.cellAt _ (by omega), Nat.mul_comm]; exact h4 0 _ rfl
  · rw [ho.cellAt _ (by omega), Nat.mul_comm]; exact h4 1 _ rfl
  · rw [ho.cellAt _ (by omega), Nat.mul_comm]; exact h4 2 _ rfl
  · rw [ho.cellAt _ (by omega), Nat.mul_comm]; exact h4 3 _ rfl
theorem own_free {W : World} {T : TypeId} {base size g n cap : Nat} {xs : List Value} (h : W.ownsRow base T size (.slice (some ⟨g, 0, none⟩) n cap) n xs) (j : Nat) : W.frozen? ⟨g, j, none⟩ = false := by
  rcases h.2 with ⟨q, _⟩ | ⟨g', cap', cur, q, _, q4, _⟩
  · cases q
  injection q with q1 _ _
  injection q1 with q1
  injection q1 with q1
  subst q1
  simp [World.frozen?, q4]
theorem ins_at2 {α : Type} {o : List α} {k : Nat} {y : α} (hk : k ≤ o.length) : (o.take k ++ y :: o.drop k)[k]? = some y := by
  have hl : (o.take k).length = k := by rw [List.length_take]; omega
  rw [List.getElem?_append_right (by omega), hl, Nat.sub_self]
  rfl
theorem Below.set4 {B : Nat} {w w' : World} (h : Below B w w') {g : Nat} (hg : B ≤ g) (j0 j1 j2 j3 : Nat) (c0 c1 c2 c3 : Value) : Below B w ((((w'.setCell ⟨g, j0, none⟩ c0).setCell ⟨g, j1, none⟩ c1).setCell ⟨g, j2, none⟩ c2).setCell ⟨g, j3, none⟩ c3) :=
  (((h.setCell (p := ⟨g, j0, none⟩) hg _).setCell (p := ⟨g, j1, none⟩) hg _).setCell (p := ⟨g, j2, none⟩) hg _).setCell (p := ⟨g, j3, none⟩) hg _
end Go.Proofs.YtaokifbpakbgdaaGreatDoor

/- Package foliokeep on archives: sorted. -/
namespace Go.Proofs.YtaokifbpakbgdaaGreatDoor
open Go.RowKit

theorem srtE_take {n : Nat} {l : List (El (n + 1))} {k : Nat} (h : k < l.length) : srtE (l.take (k + 1)) = insE (srtE (l.take k)) l[k] := by
  unfold srtE
  rw [List.take_succ_eq_append_getElem h, List.foldl_append]
  rfl
set_option maxRecDepth 20000 in
set_option maxHeartbeats 2000000 in
theorem ksorted_any (n : Nat) (F : Nat → Prop) (w : World) (v : Value) (l : List (El (n + 1))) (h : Rd w F (n + 1) v l) (hl : l.length ≤ 24) :
    Calls Tryz.prog 59 #[v] w fun e w' => ∃ v', e = .returned v' ∧ Below w.heap.size w w' ∧ Row w' 73 4 (CpE w F n) v' (srtE l) v'.ownBlock.toList ∧ New w w' v'.ownBlock.toList := by
  obtain ⟨ad, cap, rfl⟩ := h.slice
  obtain ⟨i0, hi0, hz0, hz1, hz2⟩ := info_parts info_element
  have HI := hid hi0
  clear hi0
  go_enter Tryz.func59, Tryz.ntmps59
  go_wp2_with fail
  go_loopw [3, 4] (fun v i wr => ∃ (q : Nat) (xs : List Value) (adv : Option Addr) (capv : Nat), q ≤ l.length ∧ i = .int .i64 q ∧ v = .slice adv q capv ∧ Hid (wr.ownsRow w.heap.size 73 4 v q xs) ∧ Hid (Ls 4 (CpE w F n) xs (srtE (l.take q)) []) ∧ Hid (Below w.heap.size w wr)) (fun _ i _ => l.length - (intOf i).toNat)
  case atStart => exact ⟨0, [], none, 0, Nat.zero_le _, rfl, rfl, World.ownsRow_nil _ _ _ _, ⟨rfl, rfl⟩, Below.refl _ _⟩
  case round =>
    obtain ⟨q, xs, adv, capv, hq, rfl, rfl, hown, hls, hU⟩ := hrel
    by_cases hkl : q < l.length
    · have hat := hid (h.at (List.getElem?_eq_getElem hkl))
      obtain ⟨a, ad2, cap2, rfl, _, d0, d1, d2, d3, hrd⟩ := hat.out
      have L0 := hid (World.block_lt_of_cell? _ _ d0)
      have D0 := hid d0
      have D1 := hid d1
      have D2 := hid d2
      have D3 := hid d3
      have c0 := hU.out.cell (World.block_lt_of_cell? _ _ d0) |>.trans d0
      have c1 := hU.out.cell (World.block_lt_of_cell? _ _ d1) |>.trans d1
      have c2 := hU.out.cell (World.block_lt_of_cell? _ _ d2) |>.trans d2
      have c3 := hU.out.cell (World.block_lt_of_cell? _ _ d3) |>.trans d3
      have hrd2 := hid hrd
      have hst := hid (srtE_take hkl)
      have hlen := hid (show (srtE (l.take q)).length = q by rw [srtE_len, List.length_take]; omega)
      clear hrd hat d0 d1 d2 d3
      generalize l[q] = x at c0 c1 c2 c3 hrd2 hst D0 D1 D2 D3
      generalize srtE (l.take q) = o at hls hst hlen
      have U1 := hid (Below.alloc hU.out hU.out.size (.cells #[.int .i64 x.1, .string (bs x.2.1), .string (bs x.2.2.1), .slice ad2 x.2.2.2.length cap2] 73))
      go_wp2_with (at_builtin; refine wpList_append_own _ rfl _ _ 59 rfl w.heap.size 73 i0 zeroE 4 64 Tryz.underlying59 HI.out hz0 hz1 hz2 rfl (by decide) _ _ _ rfl (hown.out.alloc _) ⟨wr.heap.size, 0, none⟩ 1 1 [.int .i64 x.1, .string (bs x.2.1), .string (bs x.2.2.1), .slice ad2 x.2.2.2.length cap2] rfl rfl (four_at _ _ _ _ _ _ _ (by simp)) four_one (by unfold maxLen; omega) (by omega) (by have := U1.out.size; simp only [World.size_alloc] at this ⊢; omega) ?_)
      intro v' w3 hown' hg hne
      have U3 := hid (up_grow hU.out hown.out _ hg)
      obtain ⟨g, cap3, rfl, hbg⟩ := own_some hown'
      have HBG := hid hbg
      have O3 := hid hown'
      have L3 := hid (Ls.snoc (k := 4) (R := CpE w F n) (c := [.int .i64 x.1, .string (bs x.2.1), .string (bs x.2.2.1), .slice ad2 x.2.2.2.length cap2]) (b := []) rfl ⟨rfl, _, rfl, hrd2.out⟩ hls.out)
      clear hown' hg hown hls U1 hbg c0 c1 c2 c3 hU
      go_wp2_with fail
      go_loopw [5] (fun kk wi => ∃ (k : Nat) (y : El (n + 1)) (ys : List Value), kk = .int .i64 k ∧ k ≤ q ∧ Hid (wi.ownsRow w.heap.size 73 4 (.slice (some ⟨g, 0, none⟩) (q + 1) cap3) (q + 1) ys) ∧ Hid (Ls 4 (CpE w F n) ys (o.take k ++ y :: o.drop k) []) ∧ Hid (sink o x.1 o.length = sink o x.1 k) ∧ Hid (Below w.heap.size w wi)) (fun kk _ => (intOf kk).toNat)
      case atStart =>
        refine ⟨q, x, _, rfl, Nat.le_refl _, O3, ?_, ?_, U3⟩
        · unfold Hid
          rw [List.take_of_length_le (Nat.le_of_eq hlen.out), List.drop_eq_nil_of_le (Nat.le_of_eq hlen.out)]
          exact L3.out
        · unfold Hid
          rw [hlen.out]
      case round =>
        obtain ⟨k, y, ys, rfl, hk, hoi, hli, hsk, hui⟩ := hrel
        clear O3 L3 U3
        have hkL := hlen.out
        have e0 := hui.out.cell (World.block_lt_of_cell? _ _ D0.out) |>.trans D0.out
        have e1 := hui.out.cell (World.block_lt_of_cell? _ _ D1.out) |>.trans D1.out
        have e2 := hui.out.cell (World.block_lt_of_cell? _ _ D2.out) |>.trans D2.out
        have e3 := hui.out.cell (World.block_lt_of_cell? _ _ D3.out) |>.trans D3.out
        obtain ⟨tv, t0, t1, t2, t3, _⟩ := cp_at hoi.out hli.out (ins_at2 (y := y) (show k ≤ o.length by omega))
        have s0 := own_free hoi.out (k * 4)
        have s1 := own_free hoi.out (k * 4 + 1)
        have s2 := own_free hoi.out (k * 4 + 2)
        have s3 := own_free hoi.out (k * 4 + 3)
        by_cases hk0 : 0 < k
        · obtain ⟨j, rfl⟩ : ∃ j, k = j + 1 := ⟨k - 1, by omega⟩
          have hz := hid (List.getElem?_eq_getElem (show j < o.length by omega))
          obtain ⟨iv, f0, f1, f2, f3, hiv⟩ := cp_at hoi.out hli.out (ins_at hz.out)
          obtain ⟨ad6, cap6, rfl⟩ := RdI.slice hiv
          have HIV := hid hiv
          clear hiv
          generalize o[j]'(by omega) = z at hz f0 f1 f2 f3 HIV
          by_cases ht : x.1 < z.1
          · go_wp2_with fail
            go_quiet (fail)
            go_wp2
            go_roundw
            case rel =>
              refine ⟨j, z, _, by go_num, by omega, own_set4 (w := wr.drewN nq) hoi.out _ _ _ _, ?_, ?_, Below.set4 (below_drewN hui.out nq) HBG.out _ _ _ _ _ _ _ _⟩
              · unfold Hid
                rw [← ins_shift (y := y) hz.out]
                exact Ls.set4 (R := CpE w F n) ⟨rfl, _, rfl, HIV.out⟩ hli.out (by simp; omega)
              · unfold Hid
                rw [hsk.out, sink_step hz.out ht]
            case measure => simp [intOf]
          · have hI := hid (show insE o x = (o.take (j + 1) ++ y :: o.drop (j + 1)).set (j + 1) x by
              unfold insE
              rw [hsk.out, sink_stop hz.out ht, ins_put (by omega)])
            go_wp2_with fail
            go_quiet (fail)
            go_wp2
            go_roundw
            case rel =>
              refine ⟨q + 1, _, _, _, by omega, by go_num, rfl, own_set4 (w := wr.drewN nq) hoi.out _ _ _ _, ?_, Below.set4 (below_drewN hui.out nq) HBG.out _ _ _ _ _ _ _ _⟩
              unfold Hid
              rw [hst.out, hI.out]
              exact Ls.set4 (R := CpE w F n) ⟨rfl, _, rfl, hrd2.out⟩ hli.out (by simp; omega)
            case measure => simp [intOf]; omega
        · obtain rfl : k = 0 := by omega
          have hI := hid (show insE o x = (o.take 0 ++ y :: o.drop 0).set 0 x by
            unfold insE
            rw [hsk.out]
            rfl)
          go_wp2_with fail
          go_quiet (fail)
          go_wp2
          go_roundw
          case rel =>
            refine ⟨q + 1, _, _, _, by omega, by go_num, rfl, own_set4 (w := wr.drewN nq) hoi.out _ _ _ _, ?_, Below.set4 (below_drewN hui.out nq) HBG.out _ _ _ _ _ _ _ _⟩
            unfold Hid
            rw [hst.out, hI.out]
            exact Ls.set4 (R := CpE w F n) (k := 0) ⟨rfl, _, rfl, hrd2.out⟩ hli.out (by simp)
          case measure => simp [intOf]; omega
    · have hall : srtE (l.take q) = srtE l := by rw [List.take_of_length_le (by omega)]
      have O := hid hown.out
      have L := hid hls.out
      have hlen := hid (srtE_len l)
      rw [hall] at L
      obtain rfl : q = l.length := by omega
      clear hown hls hall
      go_wp2
      go_ret
      exact ⟨_, rfl, hU.out, ⟨xs, [], by rw [hlen.out]; exact ownsRow_low O.out, L.out, by simp⟩, own_new O.out⟩
end Go.Proofs.YtaokifbpakbgdaaGreatDoor
