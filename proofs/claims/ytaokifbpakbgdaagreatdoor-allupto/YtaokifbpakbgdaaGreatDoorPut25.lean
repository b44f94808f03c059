/-
  Several texts in one; what each one has stands at its head.
-/
import Derived.Shelf.Strings.IndexAnyAll
import Derived.Shelf.Strconv.Itoa3
import Derived.Shelf.SlMaps.Clone
import Derived.Test.YtaokifbpakbgdaaGreatDoorProg
import Derived.Test.YtaokifbpakbgdaaGreatDoorPut24
/- What strings.ContainsAny, strconv.Itoa and maps.Clone answer, at this program's numbers (laid by the kit's own tool). -/
namespace Go.Proofs
open Go.Shelf
def Tryz.lays171_ren : Go.Shelf.Ren := ⟨fun | 171 => 183 | 243 => 235 | 246 => 276 | 283 => 307 | 284 => 308 | 285 => 309 | 286 => 310 | 129 => 291 | 317 => 321 | 318 => 322 | 319 => 323 | 320 => 324 | 337 => 327 | 338 => 328 | n => n, fun | 3 => 3 | 9 => 9 | 2 => 2 | 4 => 4 | 171 => 309 | 0 => 0 | 53 => 270 | 37 => 49 | 5 => 5 | 173 => 311 | 212 => 330 | 51 => 293 | 20 => 20 | 213 => 331 | 46 => 221 | 232 => 335 | 233 => 336 | n => n, fun | 17 => 9 | 18 => 10 | 19 => 11 | n => n⟩
theorem Tryz.lays171 : Go.Proofs.Lays.n171 Tryz.prog Tryz.lays171_ren := {
  mixed := by kernel_rfl
  f129 := Tryz.func291.trans (congrArg some (by kernel_rfl))
  f171 := Tryz.func183.trans (congrArg some (by kernel_rfl))
  f243 := Tryz.func235.trans (congrArg some (by kernel_rfl))
  f246 := Tryz.func276.trans (congrArg some (by kernel_rfl))
  f283 := Tryz.func307.trans (congrArg some (by kernel_rfl))
  f284 := Tryz.func308.trans (congrArg some (by kernel_rfl))
  f285 := Tryz.func309.trans (congrArg some (by kernel_rfl))
  f286 := Tryz.func310.trans (congrArg some (by kernel_rfl))
  f317 := Tryz.func321.trans (congrArg some (by kernel_rfl))
  f318 := Tryz.func322.trans (congrArg some (by kernel_rfl))
  f319 := Tryz.func323.trans (congrArg some (by kernel_rfl))
  f320 := Tryz.func324.trans (congrArg some (by kernel_rfl))
  f337 := Tryz.func327.trans (congrArg some (by kernel_rfl))
  f338 := Tryz.func328.trans (congrArg some (by kernel_rfl))
  t0 := Tryz.underlying0
  a0 := Tryz.isAgg0
  z0 := Tryz.sizeOf0
  v0 := Tryz.zeroValue0
  t2 := Tryz.underlying2
  a2 := Tryz.isAgg2
  z2 := Tryz.sizeOf2
  v2 := Tryz.zeroValue2
  t3 := Tryz.underlying3
  a3 := Tryz.isAgg3
  z3 := Tryz.sizeOf3
  v3 := Tryz.zeroValue3
  t4 := Tryz.underlying4
  a4 := Tryz.isAgg4
  z4 := Tryz.sizeOf4
  v4 := Tryz.zeroValue4
  t5 := Tryz.underlying5
  a5 := Tryz.isAgg5
  z5 := Tryz.sizeOf5
  v5 := Tryz.zeroValue5
  t9 := Tryz.underlying9
  a9 := Tryz.isAgg9
  z9 := Tryz.sizeOf9
  v9 := Tryz.zeroValue9
  t20 := Tryz.underlying20
  a20 := Tryz.isAgg20
  z20 := Tryz.sizeOf20
  v20 := Tryz.zeroValue20
  t37 := Tryz.underlying49
  a37 := Tryz.isAgg49
  z37 := Tryz.sizeOf49
  v37 := Tryz.zeroValue49
  t46 := Tryz.underlying221
  a46 := Tryz.isAgg221
  z46 := Tryz.sizeOf221
  v46 := Tryz.zeroValue221
  t51 := Tryz.underlying293
  a51 := Tryz.isAgg293
  z51 := Tryz.sizeOf293
  v51 := Tryz.zeroValue293
  t53 := Tryz.underlying270
  a53 := Tryz.isAgg270
  z53 := Tryz.sizeOf270
  v53 := Tryz.zeroValue270
  t171 := Tryz.underlying309
  a171 := Tryz.isAgg309
  z171 := Tryz.sizeOf309
  v171 := Tryz.zeroValue309
  t173 := Tryz.underlying311
  a173 := Tryz.isAgg311
  z173 := Tryz.sizeOf311
  v173 := Tryz.zeroValue311
  t212 := Tryz.underlying330
  a212 := Tryz.isAgg330
  z212 := Tryz.sizeOf330
  v212 := Tryz.zeroValue330
  t213 := Tryz.underlying331
  a213 := Tryz.isAgg331
  z213 := Tryz.sizeOf331
  t232 := Tryz.underlying335
  a232 := Tryz.isAgg335
  z232 := Tryz.sizeOf335
  v232 := Tryz.zeroValue335
  t233 := Tryz.underlying336
  a233 := Tryz.isAgg336
  z233 := Tryz.sizeOf336
  v233 := Tryz.zeroValue336
  g17 := by kernel_rfl
  g18 := by kernel_rfl
  g19 := by kernel_rfl }
open Go.RowKit Go.Lib in
theorem Tryz.strconv_Itoa_small (i : Nat) (hi : i < 100) (w : World) :
    Calls Tryz.prog 183 #[.int .i64 i] w fun e w' => e = .returned (.string ⟨(Lib.decDigits i).toArray⟩) ∧ w' = w := Any.strconv_Itoa_small Tryz.lays171 i hi w
def Tryz.lays150_ren : Go.Shelf.Ren := ⟨fun | 150 => 230 | 153 => 274 | 152 => 292 | 226 => 306 | 227 => 197 | 228 => 243 | 137 => 318 | 119 => 319 | 224 => 253 | 225 => 252 | 217 => 251 | 266 => 297 | n => n, fun | 9 => 9 | 4 => 4 | 3 => 3 | 5 => 5 | 21 => 21 | 117 => 226 | 116 => 225 | 0 => 0 | 46 => 221 | 124 => 229 | n => n, fun | n => n⟩
theorem Tryz.lays150 : Go.Proofs.Lays.n150 Tryz.prog Tryz.lays150_ren := {
  mixed := by kernel_rfl
  f119 := Tryz.func319.trans (congrArg some (by kernel_rfl))
  f137 := Tryz.func318.trans (congrArg some (by kernel_rfl))
  f150 := Tryz.func230.trans (congrArg some (by kernel_rfl))
  f152 := Tryz.func292.trans (congrArg some (by kernel_rfl))
  f153 := Tryz.func274.trans (congrArg some (by kernel_rfl))
  f217 := Tryz.func251.trans (congrArg some (by kernel_rfl))
  f224 := Tryz.func253.trans (congrArg some (by kernel_rfl))
  f225 := Tryz.func252.trans (congrArg some (by kernel_rfl))
  f226 := Tryz.func306.trans (congrArg some (by kernel_rfl))
  f227 := Tryz.func197.trans (congrArg some (by kernel_rfl))
  f228 := Tryz.func243.trans (congrArg some (by kernel_rfl))
  f266 := Tryz.func297.trans (congrArg some (by kernel_rfl))
  t0 := Tryz.underlying0
  a0 := Tryz.isAgg0
  z0 := Tryz.sizeOf0
  v0 := Tryz.zeroValue0
  t3 := Tryz.underlying3
  a3 := Tryz.isAgg3
  z3 := Tryz.sizeOf3
  v3 := Tryz.zeroValue3
  t4 := Tryz.underlying4
  a4 := Tryz.isAgg4
  z4 := Tryz.sizeOf4
  v4 := Tryz.zeroValue4
  t5 := Tryz.underlying5
  a5 := Tryz.isAgg5
  z5 := Tryz.sizeOf5
  v5 := Tryz.zeroValue5
  t9 := Tryz.underlying9
  a9 := Tryz.isAgg9
  z9 := Tryz.sizeOf9
  v9 := Tryz.zeroValue9
  t21 := Tryz.underlying21
  a21 := Tryz.isAgg21
  z21 := Tryz.sizeOf21
  v21 := Tryz.zeroValue21
  t46 := Tryz.underlying221
  a46 := Tryz.isAgg221
  z46 := Tryz.sizeOf221
  v46 := Tryz.zeroValue221
  t116 := Tryz.underlying225
  a116 := Tryz.isAgg225
  z116 := Tryz.sizeOf225
  t117 := Tryz.underlying226
  a117 := Tryz.isAgg226
  z117 := Tryz.sizeOf226
  v117 := Tryz.zeroValue226
  t124 := Tryz.underlying229
  a124 := Tryz.isAgg229
  z124 := Tryz.sizeOf229
  v124 := Tryz.zeroValue229 }
open Go.RowKit Go.Lib in
theorem Tryz.strings_ContainsAny_laid (s chars : ByteArray) (w : World) (hs : s.size < 4294967281) (hcs : chars.size < 4294967281) (has : ∀ (j : Nat) b, s.data.toList[j]? = some b → b.toNat < 128) (hac : ∀ (j : Nat) b, chars.data.toList[j]? = some b → b.toNat < 128) :
    Calls Tryz.prog 230 #[.string s, .string chars] w fun e w' => e = .returned (.bool (Lib.containsAny s.data.toList chars.data.toList)) ∧ Below w.heap.size w w' := Any.strings_ContainsAny_laid Tryz.lays150 (by kernel_rfl) s chars w hs hcs has hac
def Tryz.cloneM_ren : Go.Shelf.Ren := ⟨fun | 5 => 180 | 7 => 231 | n => n, fun | 23 => 127 | 25 => 3 | 3 => 73 | 4 => 4 | 20 => 20 | n => n, fun | n => n⟩
theorem Tryz.cloneM : Go.Proofs.SlLaysW.n5 Tryz.prog Tryz.cloneM_ren := {
  mixed := by kernel_rfl
  f5 := ⟨Tryz.f180.name, by decide, Tryz.func180.trans (congrArg some (by kernel_rfl))⟩
  f7 := Tryz.func231.trans (congrArg some (by kernel_rfl))
  t4 := Tryz.underlying4
  a4 := Tryz.isAgg4
  z4 := Tryz.sizeOf4
  v4 := Tryz.zeroValue4
  t20 := Tryz.underlying20
  a20 := Tryz.isAgg20
  z20 := Tryz.sizeOf20
  v20 := Tryz.zeroValue20
  t23 := Tryz.underlying127
  a23 := Tryz.isAgg127
  z23 := Tryz.sizeOf127
  v23 := Tryz.zeroValue127 }
end Go.Proofs

/- Package archive, queries: isPlain, hasNamesAbove, checkQuery. -/
namespace Go.Proofs.YtaokifbpakbgdaaGreatDoor
open Go.RowKit

theorem spl_mem (c : UInt8) : ∀ (l : Bs) (b : UInt8), b ∈ l → b = c ∨ ∃ p ∈ spl c l, b ∈ p
  | [], b, h => by simp at h
  | x :: l, b, h => by
    have hne : spl c l ≠ [] := by cases l <;> simp only [spl] <;> (try split) <;> simp
    obtain ⟨p0, r, hp⟩ := List.exists_cons_of_ne_nil hne
    rcases List.mem_cons.1 h with rfl | h
    · by_cases e : b = c
      · exact Or.inl e
      · refine Or.inr ⟨b :: p0, ?_, List.mem_cons_self⟩
        rw [spl, if_neg e, hp]
        exact List.mem_cons_self
    · rcases spl_mem c l b h with h | ⟨p, h1, h2⟩
      · exact Or.inl h
      · refine Or.inr ?_
        rw [spl]
        by_cases e : x = c
        · rw [if_pos e]; exact ⟨p, List.mem_cons_of_mem _ h1, h2⟩
        · rw [if_neg e, hp]
          rw [hp] at h1
          rcases List.mem_cons.1 h1 with rfl | h1
          · exact ⟨x :: p, List.mem_cons_self, List.mem_cons_of_mem _ h2⟩
          · exact ⟨p, List.mem_cons_of_mem _ h1, h2⟩
theorem nameB_ascii {l : Bs} (h : nameB l = true) {b : UInt8} (hb : b ∈ l) : b.toNat < 128 := by
  unfold nameB at h
  rw [Bool.and_eq_true] at h
  rcases spl_mem 46 l b hb with rfl | ⟨p, h1, h2⟩
  · decide
  · have h3 := List.all_eq_true.1 h.2 p h1
    unfold partB at h3
    rw [Bool.and_eq_true, Bool.and_eq_true] at h3
    have h4 := List.all_eq_true.1 h3.1.2 b h2
    rw [dg_iff] at h4
    have : (b.toNat : Int) ≤ 57 := h4.2
    omega
theorem txtB_ascii {l : Bs} (h : txtB l = true) {b : UInt8} (hb : b ∈ l) : b.toNat < 128 := by
  unfold txtB at h
  rw [Bool.and_eq_true, Bool.and_eq_true] at h
  have h1 := h.1.2
  unfold isTextB at h1
  rw [Bool.and_eq_true] at h1
  have h2 := List.all_eq_true.1 h1.2 b hb
  unfold textC at h2
  simp only [Bool.and_eq_true, decide_eq_true_eq] at h2
  have : (b.toNat : Int) ≤ 126 := h2.1.2
  omega
theorem ascii_of_chk {k l : Bs} (hk : k = [76, 79] ∨ k = [85, 73]) (h : chk k l = 0) {b : UInt8} (hb : b ∈ l) : b.toNat < 128 := by
  have hl : l ≠ [] := by rintro rfl; simp at hb
  unfold chk at h
  rw [if_neg (fun h => hl h.2)] at h
  rcases hk with rfl | rfl
  · refine txtB_ascii (l := l) ?_ hb
    by_cases e : txtB l = true
    · exact e
    · simp [chkF, e] at h
  · refine nameB_ascii (l := l) ?_ hb
    by_cases e : nameB l = true
    · exact e
    · simp [chkF, e] at h
theorem wild_contains (b : UInt8) : ([42, 63] : List UInt8).contains b = wildB b := by
  unfold wildB
  rw [Bool.eq_iff_iff]
  simp [← UInt8.toNat_inj]
theorem containsAny_wild : ∀ s : Bs, Lib.containsAny s [42, 63] = s.any wildB
  | [] => rfl
  | b :: l => by
    have ih := containsAny_wild l
    have hge := Lib.indexAny_ge [42, 63] l
    unfold Lib.containsAny at ih ⊢
    rw [Lib.indexAny, wild_contains, List.any_cons]
    cases wildB b
    · rw [if_neg (by decide), Bool.false_or, ← ih]
      by_cases e : Lib.indexAny l [42, 63] = -1
      · rw [e]; rfl
      · rw [if_neg (by simpa using e), decide_eq_true (by omega), decide_eq_true (by omega)]
    · rw [if_pos rfl]; rfl
set_option maxRecDepth 20000 in
set_option maxHeartbeats 2000000 in
theorem isPlain_any (w : World) (t : Int) (kd vl : By) (ad : Option Addr) (m c : Nat) (hs : vl.length ≤ 64) (hasc : chk kd vl = 0 → ∀ b ∈ vl, b.toNat < 128) (hv : Vars w) :
    Calls Tryz.prog 179 #[.agg #[.int .i64 t, .string (bs kd), .string (bs vl), .slice ad m c]] w fun e w' => e = .returned (.bool (plainV kd vl)) ∧ Below w.heap.size w w' := by
  have u1 := Below.alloc (Below.refl w.heap.size w) (Nat.le_refl _) (.cells #[.int .i64 t, .string (bs kd), .string (bs vl), .slice ad m c] 73)
  have U1 := hid u1
  have V := hid (hv.up u1)
  clear hv u1
  have HP := hid (show plainV kd vl = (!vl.any wildB && (decide (vl ≠ []) && decide (chk kd vl = 0))) from rfl)
  have x1 := bs_toList kd
  have x2 := bs_toList vl
  by_cases he : vl = []
  · subst he
    have hF := hid (show plainV kd [] = false by rw [HP.out]; simp)
    clear HP hasc
    go_enter Tryz.func179, Tryz.ntmps179
    go_wp2
    go_ret
    rw [hF.out]
    exact ⟨rfl, U1.out⟩
  have he2 : vl.isEmpty = false := by rw [List.isEmpty_eq_false_iff]; exact he
  have he3 : (vl == []) = false := beq_eq_false_iff_ne.2 he
  have HP2 := hid (show plainV kd vl = (!vl.any wildB && decide (chk kd vl = 0)) by rw [HP.out, decide_eq_true he, Bool.true_and])
  have C1 := hid (fun (W : World) (hW : Vars W) => Check_any (bs kd) (bs vl) W (by rw [bs_size]; omega) hW)
  have HA := hid hasc
  clear HP he hasc
  go_enter Tryz.func179, Tryz.ntmps179
  go_wp2_with fail
  go_at_call 13
  refine (C1.out _ V.out).mono ?_
  rintro e w2 ⟨rfl, u2⟩
  have U2 := hid (U1.out.trans (Below.mono u2 (by simp)))
  have x3 : w2.cell? ⟨w.heap.size, 2, none⟩ = some (.string (bs vl)) := ((Below.block u2 _ (by simp)) |> World.cell?_of_block).trans (Four.new w (.int .i64 t) (.string (bs kd)) (.string (bs vl)) (.slice ad m c)).cells.1.2.2.1
  clear u2 C1
  rw [bs_list, bs_list]
  by_cases hc : chk kd vl = 0
  · have C2 := hid (Tryz.strings_ContainsAny_laid (bs vl) ⟨#[42, 63]⟩ w2 (by rw [bs_size]; omega) (by decide) (fun j b hb => HA.out hc b (List.mem_of_getElem? hb)) (fun j b hb => by
      have hb' : ([42, 63] : List UInt8)[j]? = some b := hb
      have hm := List.mem_of_getElem? hb'
      simp only [List.mem_cons, List.not_mem_nil, or_false] at hm
      rcases hm with rfl | rfl <;> decide))
    have hF := hid (show plainV kd vl = !vl.any wildB by rw [HP2.out, decide_eq_true hc, Bool.and_true])
    rw [hc]
    clear HP2 hc HA
    go_wp2_with fail
    go_at_call 230
    refine C2.out.mono ?_
    rintro e w3 ⟨rfl, u3⟩
    have U3 := hid (U2.out.trans (u3.mono U2.out.size))
    have hW := hid (show Lib.containsAny (bs vl).data.toList (⟨#[42, 63]⟩ : ByteArray).data.toList = vl.any wildB from containsAny_wild vl)
    rw [hW.out]
    clear u3 C2 hW
    generalize vl.any wildB = bb at hF ⊢
    cases bb
    all_goals
      go_wp2
      go_ret
      rw [hF.out]
      exact ⟨rfl, U3.out⟩
  · have hF := hid (show plainV kd vl = false by rw [HP2.out, decide_eq_false hc, Bool.and_false])
    have hc2 : (chk kd vl == 0) = false := beq_eq_false_iff_ne.2 hc
    clear HP2 HA hc
    generalize chk kd vl = cc at hc2 ⊢
    go_wp2
    go_ret
    rw [hF.out]
    exact ⟨rfl, U2.out⟩
/-- Names that are asked for are no patterns. -/
def plainE {n : Nat} (q : List (El (n + 1))) (i : Nat) : Bool := plainV (match findE q (nameT i) with | some x => x.2.1 | none => []) (textE q (nameT i))
def aboveE {n : Nat} (q : List (El (n + 1))) (lvl : Int) (r : List Nat) : Bool := r.all (fun i => !decide ((i : Int) < lvl) || plainE q i)
theorem aboveE_drop {n : Nat} (q : List (El (n + 1))) (lvl : Int) {k : Nat} (h : k < 4) : aboveE q lvl ([0, 1, 2, 3].drop k) = ((!decide ((k : Int) < lvl) || plainE q k) && aboveE q lvl ([0, 1, 2, 3].drop (k + 1))) := by
  rw [drop4 h]; unfold aboveE; rw [List.all_cons]
abbrev namesVl : Value := .agg #[.int .i64 1048608, .int .i64 2097165, .int .i64 2097166, .int .i64 524312]
set_option maxRecDepth 20000 in
set_option maxHeartbeats 2000000 in
theorem hasNamesAbove_any (n : Nat) (F : Nat → Prop) (w : World) (v : Value) (q : List (El (n + 1))) (lvl : Int) (h : Rd w F (n + 1) v q) (hl : q.length ≤ 24) (hq : ∀ x ∈ q, x.2.2.1.length ≤ 64) (hk : ∀ x ∈ q, x.2.1 = kindT x.1) (hn : NamesV w) (hv : Vars w) :
    Calls Tryz.prog 111 #[v, .int .i64 lvl] w fun e w' => e = .returned (.bool (aboveE q lvl [0, 1, 2, 3])) ∧ Below w.heap.size w w' := by
  have H := hid h
  have V := hid hv
  have HQ := hid hq
  have HK := hid hk
  have n0 : w.cell? ⟨1, 0, none⟩ = some (.int .i64 1048608) := hn 0 (by omega)
  have n1 : w.cell? ⟨1, 1, none⟩ = some (.int .i64 2097165) := hn 1 (by omega)
  have n2 : w.cell? ⟨1, 2, none⟩ = some (.int .i64 2097166) := hn 2 (by omega)
  have n3 : w.cell? ⟨1, 3, none⟩ = some (.int .i64 524312) := hn 3 (by omega)
  clear h hn hv hq hk
  go_enter Tryz.func111, Tryz.ntmps111
  go_wp2_with fail
  go_loopw [8] (fun i wr => ∃ k : Nat, k ≤ 4 ∧ i = .int .i64 k ∧ Hid (Below w.heap.size w wr) ∧ Hid (aboveE q lvl [0, 1, 2, 3] = aboveE q lvl ([0, 1, 2, 3].drop k))) (fun i _ => 4 - (intOf i).toNat)
  case atStart => exact ⟨0, by omega, rfl, Below.refl _ _, rfl⟩
  case round =>
    obtain ⟨k, hk, rfl, hU, hE⟩ := hrel
    by_cases hkl : k < 4
    · have hix : (Instr.index 66 namesVl (.int .i64 k)).run Tryz.prog wr = .ok (.int .i64 (nameT k)) wr := by
        rcases (show k = 0 ∨ k = 1 ∨ k = 2 ∨ k = 3 by omega) with rfl | rfl | rfl | rfl <;> kernel_rfl
      have hE2 := hid (hE.out.trans (aboveE_drop q lvl hkl))
      have hkn : kindT (nameT k) = [76, 79] ∨ kindT (nameT k) = [85, 73] := by
        rcases (show k = 0 ∨ k = 1 ∨ k = 2 ∨ k = 3 by omega) with rfl | rfl | rfl | rfl <;> decide
      clear hE
      by_cases hlt : (k : Int) < lvl
      · have hE3 := hid (hE2.out.trans (by rw [decide_eq_true hlt]; rfl : _ = (plainE q k && aboveE q lvl ([0, 1, 2, 3].drop (k + 1)))))
        clear hE2
        go_wp2_with fail
        go_at_call 109
        refine (elementOf_any n F _ v q (nameT k) (H.out.up hU.out) hl).mono ?_
        rintro e w1 ⟨u1, hf⟩
        have hx : ∃ (t : Int) (kd vl : By) (ad2 : Option Addr) (n2 cap2 : Nat), e = .returned (.agg #[.int .i64 t, .string (bs kd), .string (bs vl), .slice ad2 n2 cap2]) ∧ Hid (plainE q k = plainV kd vl) ∧ vl.length ≤ 64 ∧ Hid (chk kd vl = 0 → ∀ b ∈ vl, b.toNat < 128) := by
          rcases hf with ⟨h1, h2⟩ | ⟨x, iv, h1, h2, h3⟩
          · exact ⟨0, [], [], none, 0, 0, h2, by unfold Hid plainE textE; rw [h1], by decide, fun _ b hb => by simp at hb⟩
          · obtain ⟨ad2, cap2, h4⟩ := h3.slice
            subst h4
            have hm := List.mem_of_find?_eq_some h1
            have ht : x.1 = nameT k := by have := List.find?_some h1; simpa using this
            refine ⟨x.1, x.2.1, x.2.2.1, ad2, _, cap2, h2, by unfold Hid plainE textE; rw [h1], HQ.out x hm, fun hc b hb => ?_⟩
            rw [HK.out x hm, ht] at hc
            exact ascii_of_chk hkn hc hb
        obtain ⟨t, kd, vl, ad2, n2, cap2, rfl, hP, hvl, hasc⟩ := hx
        have U1 := hid (hU.out.trans (u1.mono hU.out.size))
        clear hf u1 hkn
        go_wp2_with fail
        go_at_call 179
        refine (isPlain_any _ t kd vl ad2 n2 cap2 hvl hasc.out (V.out.up U1.out)).mono ?_
        rintro e w2 ⟨rfl, u2⟩
        have U2 := hid (U1.out.trans (u2.mono U1.out.size))
        clear u2
        rw [← hP.out]
        generalize plainE q k = pb at hE3 ⊢
        cases pb
        · go_wp2
          go_ret
          rw [hE3.out]
          exact ⟨rfl, U2.out⟩
        · go_wp2
          go_roundw
          case rel => exact ⟨k + 1, by omega, by go_num, U2, by unfold Hid; rw [hE3.out]; rfl⟩
          case measure => simp [intOf]; omega
      · have hE3 := hid (hE2.out.trans (by rw [decide_eq_false hlt]; rfl : _ = aboveE q lvl ([0, 1, 2, 3].drop (k + 1))))
        clear hE2
        go_wp2
        go_roundw
        case rel => exact ⟨k + 1, by omega, by go_num, hU, hE3⟩
        case measure => simp [intOf]; omega
    · obtain rfl : k = 4 := by omega
      have hF := hid (show aboveE q lvl [0, 1, 2, 3] = true from hE.out)
      clear hE
      go_wp2
      go_ret
      rw [hF.out]
      exact ⟨rfl, hU.out⟩
theorem fstE_zero {α : Type} {f : α → Int} : ∀ {l : List α}, fstE f l = 0 → ∀ x ∈ l, f x = 0
  | [], _, x, hx => by simp at hx
  | y :: l, h, x, hx => by
    rw [fstE] at h
    by_cases e : f y = 0
    · rw [if_neg (fun h => h e)] at h
      rcases List.mem_cons.1 hx with rfl | hx
      · exact e
      · exact fstE_zero h x hx
    · rw [if_pos e] at h; exact absurd h e
theorem keyE_kind {n : Nat} {lvl : Int} {x : El (n + 2)} (h : keyE lvl x = 0) : x.2.1 = kindT x.1 := by
  unfold keyE at h
  by_cases h1 : lvl < rowT x.1
  · rw [if_pos h1] at h; cases h
  rw [if_neg h1] at h
  by_cases h2 : x.1 = 533016 ∧ x.2.1 = SQ
  · rw [h2.1, h2.2]; decide
  rw [if_neg h2] at h
  unfold patE at h
  by_cases h3 : x.2.1 = kindT x.1
  · exact h3
  · rw [if_pos h3] at h; cases h
/-- What is wrong with a query. -/
def askE {n : Nat} (lvl : Int) (q : List (El (n + 2))) : Int := if lvl = -1 then 10 else if fstE (keyE lvl) q ≠ 0 then fstE (keyE lvl) q else if aboveE q lvl [0, 1, 2, 3] = true then 0 else 7
set_option maxRecDepth 20000 in
set_option maxHeartbeats 2000000 in
theorem checkQuery_any (n : Nat) (F : Nat → Prop) (w : World) (v : Value) (q : List (El (n + 2))) (lvl : Int) (h : Rd w F (n + 2) v q) (hl : q.length ≤ 24) (hq : ∀ x ∈ q, x.2.2.1.length ≤ 64 ∧ x.2.2.2.length ≤ 8 ∧ ∀ s ∈ x.2.2.2, s.length ≤ 24 ∧ ∀ y ∈ s, y.2.2.1.length ≤ 64) (hn : NamesV w) (hv : Vars w) :
    Calls Tryz.prog 61 #[v, .int .i64 lvl] w fun e w' => e = .returned (.int .i64 (askE lvl q)) ∧ Below w.heap.size w w' := by
  obtain ⟨ad, cap, rfl⟩ := h.slice
  have H := hid h
  have V := hid hv
  have HQ := hid hq
  have HN := hid hn
  clear h hv hq hn
  have hE := hid (show askE lvl q = if lvl = -1 then 10 else if fstE (keyE lvl) q ≠ 0 then fstE (keyE lvl) q else if aboveE q lvl [0, 1, 2, 3] = true then 0 else 7 from rfl)
  by_cases h1 : lvl = -1
  · have hF := hid (hE.out.trans (if_pos h1))
    subst h1
    clear hE
    go_enter Tryz.func61, Tryz.ntmps61
    go_wp2
    go_ret
    rw [hF.out]
    exact ⟨rfl, Below.refl _ _⟩
  have hE2 := hid (hE.out.trans (if_neg h1))
  have h2 : (lvl == -1) = false := beq_eq_false_iff_ne.2 h1
  clear hE h1
  go_enter Tryz.func61, Tryz.ntmps61
  go_wp2_with fail
  go_loopw [12] (fun i wr => ∃ k : Nat, k ≤ q.length ∧ i = .int .i64 k ∧ Hid (Below w.heap.size w wr) ∧ Hid (fstE (keyE lvl) q = fstE (keyE lvl) (q.drop k))) (fun i _ => q.length - (intOf i).toNat)
  case atStart => exact ⟨0, Nat.zero_le _, rfl, Below.refl _ _, rfl⟩
  case round =>
    obtain ⟨k, hk, rfl, hU, hF⟩ := hrel
    by_cases hkl : k < q.length
    · have hat := hid ((H.out.up hU.out).at (List.getElem?_eq_getElem hkl))
      obtain ⟨a, ad2, cap2, rfl, _, c0, c1, c2, c3, hrd⟩ := hat.out
      have hxk := hid (HQ.out _ (List.getElem_mem hkl))
      have hst := hid (hF.out.trans (fstE_drop _ hkl))
      have hrd2 := hid hrd
      clear hrd hat hF
      generalize q[k] = x at c0 c1 c2 c3 hrd2 hst hxk
      have u1 := Below.alloc (Below.refl wr.heap.size wr) (Nat.le_refl _) (.cells #[.int .i64 x.1, .string (bs x.2.1), .string (bs x.2.2.1), .slice ad2 x.2.2.2.length cap2] 73)
      have hX := (Four.new wr (.int .i64 x.1) (.string (bs x.2.1)) (.string (bs x.2.2.1)) (.slice ad2 x.2.2.2.length cap2)).cells
      obtain ⟨⟨x0, x1, x2, x3⟩, _⟩ := hX
      have U1 := hid (hU.out.trans (u1.mono hU.out.size))
      have hrd3 := hid (hrd2.out.up u1)
      clear u1 hrd2
      go_wp2_with fail
      go_at_call 110
      refine (checkKey_any n F _ x ad2 x.2.2.2.length cap2 lvl hrd3.out hxk.out.1 hxk.out.2.1 hxk.out.2.2 (V.out.up U1.out)).mono ?_
      rintro e w2 ⟨rfl, u2⟩
      have U2 := hid (U1.out.trans (u2.mono U1.out.size))
      clear u2 hrd3
      generalize keyE lvl x = c at hst ⊢
      by_cases hc : c = 0
      · have hG := hid (hst.out.trans (if_neg (fun h => h hc)))
        subst hc
        clear hst
        go_wp2
        go_roundw
        case rel => exact ⟨k + 1, by omega, by go_num, U2, hG⟩
        case measure => simp [intOf]; omega
      · have hG := hid (hst.out.trans (if_pos hc))
        have hc2 : (c == 0) = false := beq_eq_false_iff_ne.2 hc
        have hR := hid (show askE lvl q = c by rw [hE2.out, hG.out]; exact if_pos hc)
        clear hst
        go_wp2
        go_ret
        rw [hR.out]
        exact ⟨rfl, U2.out⟩
    · have hG := hid (hF.out.trans (fstE_end _ (by omega)))
      have hR := hid (hE2.out.trans (if_neg (fun h => h hG.out)))
      have hkk := hid (fun x hx => keyE_kind (fstE_zero hG.out x hx))
      clear hF hE2
      go_wp2_with fail
      go_at_call 111
      refine (hasNamesAbove_any (n + 1) F _ _ q lvl (H.out.up hU.out) hl (fun x hx => (HQ.out x hx).1) hkk.out (HN.out.up hU.out) (V.out.up hU.out)).mono ?_
      rintro e w2 ⟨rfl, u2⟩
      have U2 := hid (hU.out.trans (u2.mono hU.out.size))
      clear u2
      generalize aboveE q lvl [0, 1, 2, 3] = b at hR ⊢
      cases b
      all_goals
        go_wp2
        go_ret
        rw [hR.out]
        exact ⟨rfl, U2.out⟩
end Go.Proofs.YtaokifbpakbgdaaGreatDoor

/- Package folioref on archives: rowOf, key. -/
namespace Go.Proofs.YtaokifbpakbgdaaGreatDoor
open Go.RowKit

/-- Of which level a tag is, from level i on, n levels; is it a count? -/
def rowG (t : Int) : Nat → Nat → Int × Bool
  | _, 0 => (-1, false)
  | i, n + 1 => if cntT i = t then ((i : Int), true) else if (tagsL i).contains t = true then ((i : Int), false) else rowG t (i + 1) n
theorem contains_drop {l : List Int} {k : Nat} (h : k < l.length) (t : Int) : (l.drop k).contains t = (decide (l[k] = t) || (l.drop (k + 1)).contains t) := by
  rw [List.drop_eq_getElem_cons h, List.contains_cons]
  congr 1
  rw [Bool.eq_iff_iff, beq_iff_eq, decide_eq_true_iff]
  exact eq_comm
theorem tagsL_len {i : Nat} : (tagsL i).length ≤ 4 := by
  unfold tagsL
  split
  · decide
  split
  · decide
  split
  · decide
  · decide
set_option maxRecDepth 20000 in
set_option maxHeartbeats 2000000 in
theorem rrowOf_any (w : World) (t : Int) (lvl : Nat) (hl : lvl < 4) : Calls Tryz.prog 264 #[.int .i64 t, .int .i64 lvl] w fun e w' => e = .returned (.tuple #[.int .i64 (rowG t 0 (lvl + 1)).1, .bool (rowG t 0 (lvl + 1)).2]) ∧ Below w.heap.size w w' := by
  go_enter Tryz.func264, Tryz.ntmps264
  go_wp2_with fail
  go_at_call 163
  refine (rRows_any w).mono ?_
  rintro e w1 ⟨b, rfl, hr, u1⟩
  have U1 := hid u1
  have R1 := hid hr
  clear u1 hr
  go_wp2_with fail
  go_loop [7] (fun i => ∃ k : Nat, k ≤ lvl + 1 ∧ i = .int .i64 k ∧ Hid (rowG t 0 (lvl + 1) = rowG t k (lvl + 1 - k))) (fun i => lvl + 1 - (intOf i).toNat)
  case atStart => exact ⟨0, Nat.zero_le _, rfl, rfl⟩
  case round =>
    obtain ⟨k, hk, rfl, hE⟩ := hrel
    by_cases hkl : k < lvl + 1
    · obtain ⟨c, c0, c1, c2, c3⟩ := R1.out k (by omega)
      have hst := hid (show rowG t 0 (lvl + 1) = if cntT k = t then ((k : Int), true) else if (tagsL k).contains t = true then ((k : Int), false) else rowG t (k + 1) (lvl + 1 - (k + 1)) by
        rw [hE.out, show lvl + 1 - k = (lvl + 1 - (k + 1)) + 1 by omega, rowG])
      have hle : (k : Int) ≤ lvl := by omega
      have hC3 := hid c3
      clear hE c3
      by_cases h1 : cntT k = t
      · have hF := hid (hst.out.trans (if_pos h1))
        have hb : (cntT k == t) = true := by simpa using h1
        clear hst h1
        go_wp2
        go_ret2
        rw [hF.out]
        exact ⟨rfl, U1.out⟩
      · have hst2 := hid (hst.out.trans (if_neg h1))
        have hb : (cntT k == t) = false := by simpa using h1
        clear hst h1
        have hlen := tagsL_len (i := k)
        generalize htg : tagsL k = tg at c1 hC3 hst2 hlen
        clear htg
        go_wp2_with fail
        go_loop [8] (fun i => ∃ j : Nat, j ≤ tg.length ∧ i = .int .i64 j ∧ Hid (tg.contains t = (tg.drop j).contains t)) (fun i => tg.length - (intOf i).toNat)
        case atStart => exact ⟨0, Nat.zero_le _, rfl, rfl⟩
        case round =>
          obtain ⟨j, hj, rfl, hD⟩ := hrel
          by_cases hjl : j < tg.length
          · have hc := hC3.out j tg[j] (List.getElem?_eq_getElem hjl)
            have hD2 := hid (hD.out.trans (contains_drop hjl t))
            clear hD
            generalize tg[j] = u at hc hD2
            by_cases hu : u = t
            · have hG := hid (hst2.out.trans (if_pos (by rw [hD2.out, decide_eq_true hu]; rfl)))
              have hb2 : (u == t) = true := by simpa using hu
              clear hu hD2 hst2
              go_wp2
              go_ret2
              rw [hG.out]
              exact ⟨rfl, U1.out⟩
            · have hG := hid (hD2.out.trans (by rw [decide_eq_false hu]; rfl : _ = (tg.drop (j + 1)).contains t))
              have hb2 : (u == t) = false := by simpa using hu
              clear hu hD2
              go_wp2
              go_round
              case rel => exact ⟨j + 1, by omega, by go_num, hG⟩
              case measure => simp [intOf]; omega
          · have hF := hid (hst2.out.trans (if_neg (by rw [hD.out, List.drop_eq_nil_of_le (by omega)]; simp)))
            clear hst2 hD
            go_wp2
            go_round
            case rel => exact ⟨k + 1, by omega, by go_num, hF⟩
            case measure => simp [intOf]; omega
    · obtain rfl : k = lvl + 1 := by omega
      have hF := hid (show rowG t 0 (lvl + 1) = (-1, false) by rw [hE.out, Nat.sub_self, rowG])
      have hle : (lvl : Int) < ((lvl + 1 : Nat) : Int) := by omega
      clear hE
      go_wp2
      go_ret2
      rw [hF.out]
      exact ⟨rfl, U1.out⟩
def tagsA : List Int := [1048608, 1048592, 1048624, 2101760, 2097165, 524320, 524336, 524368, 2101766, 2097166, 524384, 2097169, 2101769, 524312, 2097171, 533016]
theorem row_none {t : Int} (h0 : 0 ≤ t) (h : t ∉ tagsA) : ∀ n i, rowG t i n = (-1, false)
  | 0, _ => by rw [rowG]
  | n + 1, i => by
    unfold tagsA at h
    simp only [List.mem_cons, List.not_mem_nil, or_false, not_or] at h
    have h1 : cntT i ≠ t := by
      unfold cntT
      split
      · exact fun e => by omega
      split
      · exact fun e => by omega
      split
      · exact fun e => by omega
      · exact fun e => by omega
    have h2 : (tagsL i).contains t = false := by
      unfold tagsL
      split
      · simp; omega
      split
      · simp; omega
      split
      · simp; omega
      · simp; omega
    rw [rowG, if_neg h1, if_neg (by rw [h2]; decide), row_none h0 (by unfold tagsA; simp only [List.mem_cons, List.not_mem_nil, or_false, not_or]; exact h) n (i + 1)]
theorem rowT_none {t : Int} (h1 : t ≠ 524370) (h : t ∉ tagsA) : rowT t = 4 := by
  unfold tagsA at h
  simp only [List.mem_cons, List.not_mem_nil, or_false, not_or] at h
  unfold rowT
  rw [if_neg (by omega), if_neg (by omega), if_neg (by omega), if_neg (by omega)]
theorem row_same {t : Int} {lvl : Nat} (hl : lvl < 4) (h0 : 0 ≤ t) (h1 : t ≠ 524370) : (rowG t 0 (lvl + 1)).1 < 0 ↔ (lvl : Int) < rowT t := by
  by_cases h : t ∈ tagsA
  · have : ∀ t ∈ tagsA, ∀ lvl, lvl < 4 → ((rowG t 0 (lvl + 1)).1 < 0 ↔ (lvl : Int) < rowT t) := by decide
    exact this t h lvl hl
  · rw [row_none h0 h, rowT_none h1 h]
    constructor
    · intro _; omega
    · intro _; decide
theorem kindT_SQ {t : Int} : kindT t = SQ ↔ t = 533016 := by
  constructor
  · intro h
    apply Decidable.byContradiction
    intro hc
    unfold kindT at h
    repeat' split at h
    all_goals first | (revert h; decide; done) | contradiction
  · rintro rfl; decide
theorem fst1 {n : Nat} (s : List (El (n + 1))) : fstE (fun s => fstE kipE s) [s] = fstE kipE s := by
  rw [fstE, fstE]
  by_cases h : fstE kipE s = 0
  · rw [if_neg (fun hh => hh h), h]
  · rw [if_pos h]
set_option maxRecDepth 20000 in
set_option maxHeartbeats 4000000 in
theorem rkey_any (n : Nat) (F : Nat → Prop) (w : World) (x : El (n + 2)) (ad : Option Addr) (c : Nat) (lvl : Nat) (hlv : lvl < 4) (h : RdI w F (n + 1) (.slice ad x.2.2.2.length c) x.2.2.2) (h0 : 0 ≤ x.1) (ht : x.1 ≠ 524370) (hp : x.2.2.1.length ≤ 64) (hl : x.2.2.2.length ≤ 8) (hs : ∀ s ∈ x.2.2.2, s.length ≤ 24 ∧ ∀ x ∈ s, x.2.2.1.length ≤ 64) :
    Calls Tryz.prog 221 #[.agg #[.int .i64 x.1, .string (bs x.2.1), .string (bs x.2.2.1), .slice ad x.2.2.2.length c], .int .i64 lvl] w fun e w' => e = .returned (.int .i64 (keyE (lvl : Int) x)) ∧ Below w.heap.size w w' := by
  have u1 := Below.alloc (Below.refl w.heap.size w) (Nat.le_refl _) (.cells #[.int .i64 x.1, .string (bs x.2.1), .string (bs x.2.2.1), .slice ad x.2.2.2.length c] 73)
  have U1 := hid u1
  have HS := hid hs
  have HX := hid (Four.new w (.int .i64 x.1) (.string (bs x.2.1)) (.string (bs x.2.2.1)) (.slice ad x.2.2.2.length c))
  have H := hid h
  have hE := hid (show keyE (lvl : Int) x = if (lvl : Int) < rowT x.1 then 11 else if x.1 = 533016 ∧ x.2.1 = SQ then askPE x.2.2.2 else patE x (kindT x.1) from rfl)
  have hrow := hid (row_same hlv h0 ht)
  have hsq := hid (kindT_SQ (t := x.1))
  have y1 := bs_toList x.2.1
  have y2 := bs_toList (kindT x.1)
  clear h hs u1 h0 ht
  go_enter Tryz.func221, Tryz.ntmps221
  go_wp2_with fail
  go_at_call 264
  refine (rrowOf_any _ x.1 lvl hlv).mono ?_
  rintro e w1 ⟨rfl, u1⟩
  have U2 := hid (U1.out.trans (u1.mono (by simp)))
  have X2 := hid (HX.out.keep (u1.block _ (by simp)))
  obtain ⟨⟨x0, x1, x2, x3⟩, _⟩ := X2.out.cells
  generalize hrg : rowG x.1 0 (lvl + 1) = rg at hrow ⊢
  clear hrg u1
  go_wp2_with fail
  go_at_call 161
  refine (rKind_any _ x.1).mono ?_
  rintro e w2 ⟨rfl, rfl⟩
  by_cases hr : rg.1 < 0
  · have hF := hid (hE.out.trans (if_pos (hrow.out.1 hr)))
    clear hE hrow
    go_wp2
    go_ret
    rw [hF.out]
    exact ⟨rfl, U2.out⟩
  have hE2 := hid (hE.out.trans (if_neg (fun h => hr (hrow.out.2 h))))
  clear hE hrow
  by_cases hk : x.2.1 = kindT x.1
  · by_cases hq : kindT x.1 = SQ
    · have hE3 := hid (hE2.out.trans (if_pos ⟨hsq.out.1 hq, hk.trans hq⟩))
      have q1 : (bs x.2.1).toList = [83, 81] := y1.trans (hk.trans hq)
      have q2 : (bs (kindT x.1)).toList = [83, 81] := y2.trans hq
      clear hE2 hsq y1 y2 hk hq
      generalize bs (kindT x.1) = kb at q2
      generalize hkb : bs x.2.1 = xb at q1 x1 X2 HX U1
      clear hkb
      by_cases h1 : 1 < x.2.2.2.length
      · have hF := hid (hE3.out.trans (if_pos h1))
        have h2 : (1 : Int) < x.2.2.2.length := by omega
        clear hE3
        go_wp2
        go_ret
        rw [hF.out]
        exact ⟨rfl, U2.out⟩
      have hE4 := hid (hE3.out.trans (if_neg h1))
      have h2 : ¬ (1 : Int) < x.2.2.2.length := by omega
      have H2 := hid (H.out.up U2.out)
      clear hE3 HX H U1 X2
      generalize x.2.2.2 = its at x3 hE4 HS h1 h2 H2 hl ⊢
      cases its with
      | nil =>
        have hF := hid (show keyE (lvl : Int) x = 0 from hE4.out)
        clear hE4
        go_wp2
        go_ret
        rw [hF.out]
        exact ⟨rfl, U2.out⟩
      | cons s r =>
        have hr0 : r = [] := by cases r with | nil => rfl | cons _ _ => simp at h1
        subst hr0
        have hE5 := hid (hE4.out.trans (fst1 s))
        have hsl := hid (HS.out s List.mem_cons_self)
        obtain ⟨p, ad3, cap3, rfl, _, c0, hrd⟩ := H2.out.at (i := 0) (x := s) rfl
        rw [Addr.add_zero'] at c0
        have hrd2 := hid hrd
        have hs24 := hsl.out.1
        clear hE4 HS H2 hrd h1 h2 hl
        simp only [List.length_cons, List.length_nil, Nat.zero_add] at x3 ⊢
        obtain ⟨wA, rfl⟩ : ∃ wA, wA = w2 := ⟨_, rfl⟩
        go_wp2_with fail
        go_loopw [9] (fun i wr => ∃ k : Nat, k ≤ s.length ∧ i = .int .i64 k ∧ Hid (Below wA.heap.size wA wr) ∧ Hid (keyE (lvl : Int) x = fstE kipE (s.drop k))) (fun i _ => s.length - (intOf i).toNat)
        case atStart => exact ⟨0, Nat.zero_le _, rfl, Below.refl _ _, hE5⟩
        case round =>
          obtain ⟨k, hk, rfl, hU, hF⟩ := hrel
          by_cases hkl : k < s.length
          · obtain ⟨a, ad4, cap4, rfl, _, d0, d1, d2, d3, _⟩ := (hrd2.out.up hU.out).at (List.getElem?_eq_getElem hkl)
            have hy := hid (hsl.out.2 _ (List.getElem_mem hkl))
            have hst := hid (hF.out.trans (fstE_drop _ hkl))
            clear hF
            generalize s[k] = y at d0 d1 d2 d3 hy hst
            have hKE := hid (show kipE y = if isWord y.1 = true then (if y.2.1 ≠ LO then 2 else matchE LO y.2.2.1 []) else 11 from rfl)
            have z1 := bs_toList y.2.1
            have hW := hid (show isWord y.1 = (y.1 == 524544 || y.1 == 524548) from rfl)
            by_cases hw : isWord y.1 = true
            · have hK2 := hid (hKE.out.trans (if_pos hw))
              have hww : y.1 = 524544 ∨ y.1 = 524548 := by rw [hW.out] at hw; simpa using hw
              have hWW := hid hww
              clear hKE hW hw hww
              by_cases hLO : y.2.1 = LO
              · have hK3 := hid (hK2.out.trans (if_neg (fun h => h hLO)))
                have C := hid (fun W => rpattern_any y (.slice ad4 y.2.2.2.length cap4) W hy.out ⟨_, _, _, rfl⟩)
                rw [show matchE y.2.1 y.2.2.1 [] = kipE y from by rw [hK3.out, hLO]] at C
                unfold elV at C
                have z2 : (bs y.2.1).toList = [76, 79] := z1.trans hLO
                clear hK2 hK3 z1 hLO
                generalize hyb : bs y.2.1 = yb at z2 d1 C
                clear hyb
                rcases hWW.out with hv | hv
                all_goals
                  have hv1 : (y.1 == 524544) = decide (y.1 = 524544) := rfl
                  generalize hy1 : y.1 = t1 at hv hv1 d0 C
                  subst hv
                  clear hv1 hWW
                  go_wp2_with fail
                  go_at_call 265
                  refine (C.out _).mono ?_
                  rintro e w3 ⟨rfl, u3⟩
                  have U3 := hid (hU.out.trans (u3.mono hU.out.size))
                  clear u3 C
                  generalize kipE y = cc at hst ⊢
                  by_cases hc : cc = 0
                  · have hG := hid (hst.out.trans (if_neg (fun h => h hc)))
                    subst hc
                    clear hst
                    go_wp2
                    go_roundw
                    case rel => exact ⟨k + 1, by omega, by go_num, U3, hG⟩
                    case measure => simp [intOf]; omega
                  · have hG := hid (hst.out.trans (if_pos hc))
                    have hc2 : (cc == 0) = false := beq_eq_false_iff_ne.2 hc
                    clear hst hc
                    go_wp2
                    go_ret
                    rw [hG.out]
                    exact ⟨rfl, U2.out.trans (U3.out.mono U2.out.size)⟩
              · have hK3 := hid (hK2.out.trans (if_pos hLO))
                have hG := hid (show keyE (lvl : Int) x = 2 by rw [hst.out, hK3.out]; rfl)
                have z2 : (y.2.1 == [76, 79]) = false := beq_eq_false_iff_ne.2 hLO
                clear hK2 hK3 hLO hst
                rcases hWW.out with hv | hv
                all_goals
                  generalize hy1 : y.1 = t1 at hv d0
                  subst hv
                  clear hWW hy1
                  go_wp2
                  go_ret
                  rw [hG.out]
                  exact ⟨rfl, U2.out.trans (hU.out.mono U2.out.size)⟩
            · have hK2 := hid (hKE.out.trans (if_neg hw))
              have hG := hid (show keyE (lvl : Int) x = 11 by rw [hst.out, hK2.out]; rfl)
              have hw1 : (y.1 == 524544) = false ∧ (y.1 == 524548) = false := by
                rw [hW.out] at hw
                simpa using hw
              obtain ⟨hwa, hwb⟩ := hw1
              have hwc : (y.1 != 524544) = true := by simp [bne, hwa]
              have hwd : (y.1 != 524548) = true := by simp [bne, hwb]
              have hwe : decide (y.1 = 524544) = false := by simpa using hwa
              have hwf : decide (y.1 = 524548) = false := by simpa using hwb
              clear hKE hK2 hW hw hst hE5 hsl hy hlv q1 q2 hr
              generalize y.1 = t1 at d0 hwa hwb hwc hwd hwe hwf
              go_wp2
              go_ret
              rw [hG.out]
              exact ⟨rfl, U2.out.trans (hU.out.mono U2.out.size)⟩
          · have hG := hid (hF.out.trans (fstE_end _ (by omega)))
            clear hF
            go_wp2
            go_ret
            rw [hG.out]
            exact ⟨rfl, U2.out.trans (hU.out.mono U2.out.size)⟩
    · have hE3 := hid (hE2.out.trans (if_neg (fun h => hq (by rw [h.1]; decide))))
      have hE4 := hid (hE3.out.trans (show patE x (kindT x.1) = matchE x.2.1 x.2.2.1 [] by unfold patE; rw [if_neg (fun h => h hk), hk]))
      have C := hid (fun W => rpattern_any x (.slice ad x.2.2.2.length c) W hp ⟨_, _, _, rfl⟩)
      have q1 : (kindT x.1 == [83, 81]) = false := beq_eq_false_iff_ne.2 hq
      have q2 : (x.2.1 == kindT x.1) = true := by simpa using hk
      clear hE2 hE3 hk hq hsq
      unfold elV at C
      rw [← hE4.out] at C
      go_wp2_with fail
      go_at_call 265
      refine (C.out _).mono ?_
      rintro e w3 ⟨rfl, u3⟩
      have U3 := hid (U2.out.trans (u3.mono U2.out.size))
      clear u3 C
      go_wp2
      go_ret
      exact ⟨rfl, U3.out⟩
  · have hE3 := hid (hE2.out.trans (if_neg (fun h => hk (by rw [h.2, h.1]; decide))))
    have hF := hid (hE3.out.trans (show patE x (kindT x.1) = 2 from if_pos hk))
    have q2 : (x.2.1 == kindT x.1) = false := beq_eq_false_iff_ne.2 hk
    clear hE2 hE3 hk
    go_wp2
    go_ret
    rw [hF.out]
    exact ⟨rfl, U2.out⟩
end Go.Proofs.YtaokifbpakbgdaaGreatDoor
