/-
  Several texts in one; what each one has stands at its head.
-/
import Derived.Test.YtaokifbpakbgdaaGreatDoorPut11
import Derived.Shelf.Strings.IndexAnyAll
import Derived.Shelf.Strconv.Itoa3
import Derived.Shelf.SlMaps.Clone
import Derived.Test.YtaokifbpakbgdaaGreatDoorProg
/- Package archive, queries: checkAskedParts, checkKey. -/
namespace Go.Proofs.YtaokifbpakbgdaaGreatDoor
open Go.RowKit

/-- The first thing wrong. -/
def fstE {α : Type} (f : α → Int) : List α → Int
  | [] => 0
  | x :: l => if f x ≠ 0 then f x else fstE f l
theorem fstE_drop {α : Type} (f : α → Int) {l : List α} {k : Nat} (h : k < l.length) : fstE f (l.drop k) = if f l[k] ≠ 0 then f l[k] else fstE f (l.drop (k + 1)) := by rw [List.drop_eq_getElem_cons h, fstE]
theorem fstE_end {α : Type} (f : α → Int) {l : List α} {k : Nat} (h : l.length ≤ k) : fstE f (l.drop k) = 0 := by rw [List.drop_eq_nil_of_le h, fstE]
/-- What is wrong with the parts that are asked for. -/
def askPE {n : Nat} (its : Its (n + 1)) : Int := if 1 < its.length then 4 else fstE (fun s => fstE kipE s) its
set_option maxRecDepth 20000 in
set_option maxHeartbeats 2000000 in
theorem checkAskedParts_any (n : Nat) (F : Nat → Prop) (w : World) (v : Value) (its : Its (n + 1)) (h : RdI w F (n + 1) v its) (hl : its.length ≤ 8) (hs : ∀ s ∈ its, s.length ≤ 24 ∧ ∀ x ∈ s, x.2.2.1.length ≤ 64) (hv : Vars w) :
    Calls Tryz.prog 176 #[v] w fun e w' => e = .returned (.int .i64 (askPE its)) ∧ Below w.heap.size w w' := by
  obtain ⟨ad, cap, rfl⟩ := h.slice
  have H := hid h
  have HS := hid hs
  have V := hid hv
  clear h hs hv
  go_enter Tryz.func176, Tryz.ntmps176
  by_cases h1 : 1 < its.length
  · have hF := hid (show askPE its = 4 from if_pos h1)
    have h2 : (1 : Int) < its.length := by omega
    go_wp2
    go_ret
    rw [hF.out]
    exact ⟨rfl, Below.refl _ _⟩
  have hF0 := hid (show askPE its = fstE (fun s => fstE kipE s) its from if_neg h1)
  have h2 : ¬ (1 : Int) < its.length := by omega
  clear h1
  go_wp2_with fail
  go_loopw [13] (fun i wr => ∃ k : Nat, k ≤ its.length ∧ i = .int .i64 k ∧ Hid (Below w.heap.size w wr) ∧ Hid (askPE its = fstE (fun s => fstE kipE s) (its.drop k))) (fun i _ => its.length - (intOf i).toNat)
  case atStart => exact ⟨0, Nat.zero_le _, rfl, Below.refl _ _, hF0⟩
  case round =>
    obtain ⟨k, hk, rfl, hU, hE⟩ := hrel
    by_cases hkl : k < its.length
    · have hat := hid ((H.out.up hU.out).at (List.getElem?_eq_getElem hkl))
      obtain ⟨a, ad2, cap2, rfl, _, c0, hrd⟩ := hat.out
      have hsl := hid (HS.out _ (List.getElem_mem hkl))
      have hst := hid (hE.out.trans (fstE_drop _ hkl))
      have hrd2 := hid hrd
      clear hrd hat hE
      generalize its[k] = s at c0 hrd2 hst hsl
      have hs24 := hsl.out.1
      obtain ⟨wA, rfl⟩ : ∃ wA, wA = wr := ⟨_, rfl⟩
      have u0 : Below wA.heap.size wA (wA.alloc (.cells #[.slice ad2 s.length cap2] 182)) := Below.alloc (Below.refl _ _) (Nat.le_refl _) _
      have hrd3 := hid (hrd2.out.up u0)
      have U1 := hid (hU.out.trans (u0.mono hU.out.size))
      clear u0 hrd2
      go_wp2_with fail
      go_loopw [20] (fun i wq => ∃ q : Nat, q ≤ s.length ∧ i = .int .i64 q ∧ Hid (Below (wA.alloc (.cells #[.slice ad2 s.length cap2] 182)).heap.size (wA.alloc (.cells #[.slice ad2 s.length cap2] 182)) wq) ∧ Hid (fstE kipE s = fstE kipE (s.drop q))) (fun i _ => s.length - (intOf i).toNat)
      case atStart => exact ⟨0, Nat.zero_le _, rfl, Below.refl _ _, rfl⟩
      case round =>
        obtain ⟨q, hq, rfl, hU2, hE2⟩ := hrel
        by_cases hql : q < s.length
        · have hat := hid ((hrd3.out.up hU2.out).at (List.getElem?_eq_getElem hql))
          obtain ⟨a3, ad3, cap3, rfl, _, d0, d1, d2, d3, _⟩ := hat.out
          have hy := hid (hsl.out.2 _ (List.getElem_mem hql))
          have hst2 := hid (hE2.out.trans (fstE_drop _ hql))
          clear hat hE2
          generalize s[q] = y at d0 d1 d2 d3 hy hst2
          have u1 := Below.alloc (Below.refl wr.heap.size wr) (Nat.le_refl _) (.cells #[.int .i64 y.1, .string (bs y.2.1), .string (bs y.2.2.1), .slice ad3 y.2.2.2.length cap3] 73)
          have hX := (Four.new wr (.int .i64 y.1) (.string (bs y.2.1)) (.string (bs y.2.2.1)) (.slice ad3 y.2.2.2.length cap3)).cells
          obtain ⟨⟨x0, x1, x2, x3⟩, _⟩ := hX
          go_wp2_with fail
          go_at_call 229
          refine (checkKeyInParts_any y ad3 y.2.2.2.length cap3 _ hy.out (V.out.up ((U1.out.trans (hU2.out.mono U1.out.size)).trans (u1.mono (Nat.le_trans U1.out.size hU2.out.size))))).mono ?_
          rintro e w2 ⟨rfl, u2⟩
          have U2 := hid (hU2.out.trans ((u1.trans (u2.mono u1.size)).mono hU2.out.size))
          clear u1 u2
          generalize kipE y = c at hst2 ⊢
          by_cases hc : c = 0
          · have hF := hid (hst2.out.trans (if_neg (fun h => h hc)))
            subst hc
            clear hst2
            go_wp2
            go_roundw
            case rel => exact ⟨q + 1, by omega, by go_num, U2, hF⟩
            case measure => simp [intOf]; omega
          · have hF := hid (hst2.out.trans (if_pos hc))
            have hc2 : (c == 0) = false := beq_eq_false_iff_ne.2 hc
            clear hst2
            have hG := hid (hst.out.trans (by simp only [hF.out]; exact if_pos hc))
            go_wp2
            go_ret
            rw [hG.out]
            exact ⟨rfl, U1.out.trans (U2.out.mono U1.out.size)⟩
        · have hF := hid (hE2.out.trans (fstE_end _ (by omega)))
          have hG := hid (hst.out.trans (if_neg (fun h => h hF.out)))
          clear hE2 hst
          go_wp2
          go_roundw
          case rel => exact ⟨k + 1, by omega, by go_num, U1.out.trans (hU2.out.mono U1.out.size), hG⟩
          case measure => simp [intOf]; omega
    · have hF := hid (hE.out.trans (fstE_end _ (by omega)))
      clear hE
      go_wp2
      go_ret
      rw [hF.out]
      exact ⟨rfl, hU.out⟩
/-- What is wrong with a key. -/
def keyE {n : Nat} (lvl : Int) (x : El (n + 2)) : Int := if lvl < rowT x.1 then 11 else if x.1 = 533016 ∧ x.2.1 = SQ then askPE x.2.2.2 else patE x (kindT x.1)
set_option maxRecDepth 20000 in
set_option maxHeartbeats 2000000 in
theorem checkKey_any (n : Nat) (F : Nat → Prop) (w : World) (x : El (n + 2)) (ad : Option Addr) (m c : Nat) (lvl : Int) (h : RdI w F (n + 1) (.slice ad m c) x.2.2.2) (hp : x.2.2.1.length ≤ 64) (hl : x.2.2.2.length ≤ 8) (hs : ∀ s ∈ x.2.2.2, s.length ≤ 24 ∧ ∀ x ∈ s, x.2.2.1.length ≤ 64) (hv : Vars w) :
    Calls Tryz.prog 110 #[.agg #[.int .i64 x.1, .string (bs x.2.1), .string (bs x.2.2.1), .slice ad m c], .int .i64 lvl] w fun e w' => e = .returned (.int .i64 (keyE lvl x)) ∧ Below w.heap.size w w' := by
  have u1 := Below.alloc (Below.refl w.heap.size w) (Nat.le_refl _) (.cells #[.int .i64 x.1, .string (bs x.2.1), .string (bs x.2.2.1), .slice ad m c] 73)
  have U1 := hid u1
  have V := hid (hv.up u1)
  have H := hid (h.up u1)
  have HS := hid hs
  have hE := hid (show keyE lvl x = if lvl < rowT x.1 then 11 else if x.1 = 533016 ∧ x.2.1 = SQ then askPE x.2.2.2 else patE x (kindT x.1) from rfl)
  have hX := (Four.new w (.int .i64 x.1) (.string (bs x.2.1)) (.string (bs x.2.2.1)) (.slice ad m c)).cells
  obtain ⟨⟨x0, x1, x2, x3⟩, _⟩ := hX
  clear h hs hv u1
  go_enter Tryz.func110, Tryz.ntmps110
  go_wp2_with fail
  go_at_call 175
  refine (rowOf_any _ x.1).mono ?_
  rintro e w1 ⟨rfl, rfl⟩
  generalize rowT x.1 = r at hE ⊢
  by_cases hr : lvl < (r : Int)
  · have hF := hid (hE.out.trans (if_pos hr))
    clear hE
    go_wp2
    go_ret
    rw [hF.out]
    exact ⟨rfl, U1.out⟩
  have hE2 := hid (hE.out.trans (if_neg hr))
  clear hE
  by_cases ht : x.1 = 533016 ∧ x.2.1 = SQ
  · have hF := hid (hE2.out.trans (if_pos ht))
    have ht1 : (x.1 == 533016) = true := by simpa using ht.1
    have ht2 : (bs x.2.1).toList = [83, 81] := by rw [bs_toList]; exact ht.2
    clear hE2 ht
    go_wp2_with fail
    go_at_call 176
    refine (checkAskedParts_any n F _ _ x.2.2.2 H.out hl HS.out V.out).mono ?_
    rintro e w1 ⟨rfl, u2⟩
    have U2 := hid (U1.out.trans (u2.mono (by simp)))
    clear u2
    rw [← hF.out]
    go_wp2
    go_ret
    exact ⟨rfl, U2.out⟩
  · have hF := hid (hE2.out.trans (if_neg ht))
    have C := hid (fun (W : World) (hW : Vars W) (k : By) => checkPattern_any x ad m c k W hp hW)
    have K := hid (fun (W : World) => kindOf_any W x.1)
    clear hE2
    have y1 := bs_toList x.2.1
    generalize hk : kindT x.1 = kd at hF K
    clear hk
    by_cases a1 : x.1 = 533016
    · have hk2 : (x.2.1 == [83, 81]) = false := beq_eq_false_iff_ne.2 (fun a2 => ht ⟨a1, a2⟩)
      have a2 : (x.1 == 533016) = true := by simpa using a1
      clear ht a1
      go_wp2_with fail
      go_region_with (first | (go_at_call 178; refine (K.out _).mono ?_; rintro e w1 ⟨rfl, rfl⟩) | (go_at_call 177; refine (C.out _ (V.out.up (Below.drew (Below.refl _ _))) kd).mono ?_; rintro e w1 ⟨rfl, u2⟩))
      all_goals
        have U2 := hid (U1.out.drew.trans (u2.mono U1.out.drew.size))
        clear u2
        rw [← hF.out]
        go_wp2
        go_ret
        exact ⟨rfl, U2.out⟩
    · have a2 : (x.1 == 533016) = false := by simpa using a1
      clear ht a1
      go_wp2_with fail
      go_region_with (first | (go_at_call 178; refine (K.out _).mono ?_; rintro e w1 ⟨rfl, rfl⟩) | (go_at_call 177; refine (C.out _ (V.out.up (Below.drew (Below.refl _ _))) kd).mono ?_; rintro e w1 ⟨rfl, u2⟩))
      all_goals
        have U2 := hid (U1.out.drew.trans (u2.mono U1.out.drew.size))
        clear u2
        rw [← hF.out]
        go_wp2
        go_ret
        exact ⟨rfl, U2.out⟩
end Go.Proofs.YtaokifbpakbgdaaGreatDoor

/- What strings.ContainsAny, strconv.Itoa and maps.Clone answer, at this program's numbers (laid by the kit's own tool). -/
namespace Go.Proofs
open Go.Shelf
def Tryz.lays171_ren : Go.Shelf.Ren := ⟨fun | 171 => 183 | 243 => 235 | 246 => 276 | 283 => 307 | 284 => 308 | 285 => 309 | 286 => 310 | 129 => 291 | 317 => 321 | 318 => 322 | 319 => 323 | 320 => 324 | 337 => 327 | 338 => 328 | n => n, fun | 3 => 3 | 9 => 9 | 2 => 2 | 4 => 4 | 171 => 309 | 0 => 0 | 53 => 270 | 37 => 49 | 5 => 5 | 173 => 311 | 212 => 330 | 51 => 293 | 20 => 20 | 213 => 331 | 46 => 221 | 232 => 335 | 233 => 336 | n => n, fun | 17 => 9 | 18 => 10 | 19 => 11 | n => n⟩
theorem Tryz.lays171 : Go.Proofs.Lays.n171 Tryz.prog Tryz.lays171_ren := {
  mixed := by kernel_rfl
  f129 := Tryz.func291.trans (congrArg some (by kernel_rfl))
  f171 := Tryz.func183.trans (congrArg some (by kernel_rfl))
  f243 := Tryz.func235.trans (congrArg some (by kernel_rfl))
  f246 := Tryz.func276.trans (congrArg some (by kernel_rfl))
  f283 := Tryz.func307.trans (congrArg some (by kernel_rfl))
  f284 := Tryz.func308.trans (congrArg some (by kernel_rfl))
  f285 := Tryz.func309.trans (congrArg some (by kernel_rfl))
  f286 := Tryz.func310.trans (congrArg some (by kernel_rfl))
  f317 := Tryz.func321.trans (congrArg some (by kernel_rfl))
  f318 := Tryz.func322.trans (congrArg some (by kernel_rfl))
  f319 := Tryz.func323.trans (congrArg some (by kernel_rfl))
  f320 := Tryz.func324.trans (congrArg some (by kernel_rfl))
  f337 := Tryz.func327.trans (congrArg some (by kernel_rfl))
  f338 := Tryz.func328.trans (congrArg some (by kernel_rfl))
  t0 := Tryz.underlying0
  a0 := Tryz.isAgg0
  z0 := Tryz.sizeOf0
  v0 := Tryz.zeroValue0
  t2 := Tryz.underlying2
  a2 := Tryz.isAgg2
  z2 := Tryz.sizeOf2
  v2 := Tryz.zeroValue2
  t3 := Tryz.underlying3
  a3 := Tryz.isAgg3
  z3 := Tryz.sizeOf3
  v3 := Tryz.zeroValue3
  t4 := Tryz.underlying4
  a4 := Tryz.isAgg4
  z4 := Tryz.sizeOf4
  v4 := Tryz.zeroValue4
  t5 := Tryz.underlying5
  a5 := Tryz.isAgg5
  z5 := Tryz.sizeOf5
  v5 := Tryz.zeroValue5
  t9 := Tryz.underlying9
  a9 := Tryz.isAgg9
  z9 := Tryz.sizeOf9
  v9 := Tryz.zeroValue9
  t20 := Tryz.underlying20
  a20 := Tryz.isAgg20
  z20 := Tryz.sizeOf20
  v20 := Tryz.zeroValue20
  t37 := Tryz.underlying49
  a37 := Tryz.isAgg49
  z37 := Tryz.sizeOf49
  v37 := Tryz.zeroValue49
  t46 := Tryz.underlying221
  a46 := Tryz.isAgg221
  z46 := Tryz.sizeOf221
  v46 := Tryz.zeroValue221
  t51 := Tryz.underlying293
  a51 := Tryz.isAgg293
  z51 := Tryz.sizeOf293
  v51 := Tryz.zeroValue293
  t53 := Tryz.underlying270
  a53 := Tryz.isAgg270
  z53 := Tryz.sizeOf270
  v53 := Tryz.zeroValue270
  t171 := Tryz.underlying309
  a171 := Tryz.isAgg309
  z171 := Tryz.sizeOf309
  v171 := Tryz.zeroValue309
  t173 := Tryz.underlying311
  a173 := Tryz.isAgg311
  z173 := Tryz.sizeOf311
  v173 := Tryz.zeroValue311
  t212 := Tryz.underlying330
  a212 := Tryz.isAgg330
  z212 := Tryz.sizeOf330
  v212 := Tryz.zeroValue330
  t213 := Tryz.underlying331
  a213 := Tryz.isAgg331
  z213 := Tryz.sizeOf331
  t232 := Tryz.underlying335
  a232 := Tryz.isAgg335
  z232 := Tryz.sizeOf335
  v232 := Tryz.zeroValue335
  t233 := Tryz.underlying336
  a233 := Tryz.isAgg336
  z233 := Tryz.sizeOf336
  v233 := Tryz.zeroValue336
  g17 := by kernel_rfl
  g18 := by kernel_rfl
  g19 := by kernel_rfl }
open Go.RowKit Go.Lib in
theorem Tryz.strconv_Itoa_small (i : Nat) (hi : i < 100) (w : World) :
    Calls Tryz.prog 183 #[.int .i64 i] w fun e w' => e = .returned (.string ⟨(Lib.decDigits i).toArray⟩) ∧ w' = w := Any.strconv_Itoa_small Tryz.lays171 i hi w
def Tryz.lays150_ren : Go.Shelf.Ren := ⟨fun | 150 => 230 | 153 => 274 | 152 => 292 | 226 => 306 | 227 => 197 | 228 => 243 | 137 => 318 | 119 => 319 | 224 => 253 | 225 => 252 | 217 => 251 | 266 => 297 | n => n, fun | 9 => 9 | 4 => 4 | 3 => 3 | 5 => 5 | 21 => 21 | 117 => 226 | 116 => 225 | 0 => 0 | 46 => 221 | 124 => 229 | n => n, fun | n => n⟩
theorem Tryz.lays150 : Go.Proofs.Lays.n150 Tryz.prog Tryz.lays150_ren := {
  mixed := by kernel_rfl
  f119 := Tryz.func319.trans (congrArg some (by kernel_rfl))
  f137 := Tryz.func318.trans (congrArg some (by kernel_rfl))
  f150 := Tryz.func230.trans (congrArg some (by kernel_rfl))
  f152 := Tryz.func292.trans (congrArg some (by kernel_rfl))
  f153 := Tryz.func274.trans (congrArg some (by kernel_rfl))
  f217 := Tryz.func251.trans (congrArg some (by kernel_rfl))
  f224 := Tryz.func253.trans (congrArg some (by kernel_rfl))
  f225 := Tryz.func252.trans (congrArg some (by kernel_rfl))
  f226 := Tryz.func306.trans (congrArg some (by kernel_rfl))
  f227 := Tryz.func197.trans (congrArg some (by kernel_rfl))
  f228 := Tryz.func243.trans (congrArg some (by kernel_rfl))
  f266 := Tryz.func297.trans (congrArg some (by kernel_rfl))
  t0 := Tryz.underlying0
  a0 := Tryz.isAgg0
  z0 := Tryz.sizeOf0
  v0 := Tryz.zeroValue0
  t3 := Tryz.underlying3
  a3 := Tryz.isAgg3
  z3 := Tryz.sizeOf3
  v3 := Tryz.zeroValue3
  t4 := Tryz.underlying4
  a4 := Tryz.isAgg4
  z4 := Tryz.sizeOf4
  v4 := Tryz.zeroValue4
  t5 := Tryz.underlying5
  a5 := Tryz.isAgg5
  z5 := Tryz.sizeOf5
  v5 := Tryz.zeroValue5
  t9 := Tryz.underlying9
  a9 := Tryz.isAgg9
  z9 := Tryz.sizeOf9
  v9 := Tryz.zeroValue9
  t21 := Tryz.underlying21
  a21 := Tryz.isAgg21
  z21 := Tryz.sizeOf21
  v21 := Tryz.zeroValue21
  t46 := Tryz.underlying221
  a46 := Tryz.isAgg221
  z46 := Tryz.sizeOf221
  v46 := Tryz.zeroValue221
  t116 := Tryz.underlying225
  a116 := Tryz.isAgg225
  z116 := Tryz.sizeOf225
  t117 := Tryz.underlying226
  a117 := Tryz.isAgg226
  z117 := Tryz.sizeOf226
  v117 := Tryz.zeroValue226
  t124 := Tryz.underlying229
  a124 := Tryz.isAgg229
  z124 := Tryz.sizeOf229
  v124 := Tryz.zeroValue229 }
open Go.RowKit Go.Lib in
theorem Tryz.strings_ContainsAny_laid (s chars : ByteArray) (w : World) (hs : s.size < 4294967281) (hcs : chars.size < 4294967281) (has : ∀ (j : Nat) b, s.data.toList[j]? = some b → b.toNat < 128) (hac : ∀ (j : Nat) b, chars.data.toList[j]? = some b → b.toNat < 128) :
    Calls Tryz.prog 230 #[.string s, .string chars] w fun e w' => e = .returned (.bool (Lib.containsAny s.data.toList chars.data.toList)) ∧ Below w.heap.size w w' := Any.strings_ContainsAny_laid Tryz.lays150 (by kernel_rfl) s chars w hs hcs has hac
def Tryz.cloneM_ren : Go.Shelf.Ren := ⟨fun | 5 => 180 | 7 => 231 | n => n, fun | 23 => 127 | 25 => 3 | 3 => 73 | 4 => 4 | 20 => 20 | n => n, fun | n => n⟩
theorem Tryz.cloneM : Go.Proofs.SlLaysW.n5 Tryz.prog Tryz.cloneM_ren := {
  mixed := by kernel_rfl
  f5 := ⟨Tryz.f180.name, by decide, Tryz.func180.trans (congrArg some (by kernel_rfl))⟩
  f7 := Tryz.func231.trans (congrArg some (by kernel_rfl))
  t4 := Tryz.underlying4
  a4 := Tryz.isAgg4
  z4 := Tryz.sizeOf4
  v4 := Tryz.zeroValue4
  t20 := Tryz.underlying20
  a20 := Tryz.isAgg20
  z20 := Tryz.sizeOf20
  v20 := Tryz.zeroValue20
  t23 := Tryz.underlying127
  a23 := Tryz.isAgg127
  z23 := Tryz.sizeOf127
  v23 := Tryz.zeroValue127 }
end Go.Proofs

/- Package archive, queries: isPlain, hasNamesAbove, checkQuery. -/
namespace Go.Proofs.YtaokifbpakbgdaaGreatDoor
open Go.RowKit

theorem spl_mem (c : UInt8) : ∀ (l : Bs) (b : UInt8), b ∈ l → b = c ∨ ∃ p ∈ spl c l, b ∈ p
  | [], b, h => by simp at h
  | x :: l, b, h => by
    have hne : spl c l ≠ [] := by cases l <;> simp only [spl] <;> (try split) <;> simp
    obtain ⟨p0, r, hp⟩ := List.exists_cons_of_ne_nil hne
    rcases List.mem_cons.1 h with rfl | h
    · by_cases e : b = c
      · exact Or.inl e
      · refine Or.inr ⟨b :: p0, ?_, List.mem_cons_self⟩
        rw [spl, if_neg e, hp]
        exact List.mem_cons_self
    · rcases spl_mem c l b h with h | ⟨p, h1, h2⟩
      · exact Or.inl h
      · refine Or.inr ?_
        rw [spl]
        by_cases e : x = c
        · rw [if_pos e]; exact ⟨p, List.mem_cons_of_mem _ h1, h2⟩
        · rw [if_neg e, hp]
          rw [hp] at h1
          rcases List.mem_cons.1 h1 with rfl | h1
          · exact ⟨x :: p, List.mem_cons_self, List.mem_cons_of_mem _ h2⟩
          · exact ⟨p, List.mem_cons_of_mem _ h1, h2⟩
theorem nameB_ascii {l : Bs} (h : nameB l = true) {b : UInt8} (hb : b ∈ l) : b.toNat < 128 := by
  unfold nameB at h
  rw [Bool.and_eq_true] at h
  rcases spl_mem 46 l b hb with rfl | ⟨p, h1, h2⟩
  · decide
  · have h3 := List.all_eq_true.1 h.2 p h1
    unfold partB at h3
    rw [Bool.and_eq_true, Bool.and_eq_true] at h3
    have h4 := List.all_eq_true.1 h3.1.2 b h2
    rw [dg_iff] at h4
    have : (b.toNat : Int) ≤ 57 := h4.2
    omega
theorem txtB_ascii {l : Bs} (h : txtB l = true) {b : UInt8} (hb : b ∈ l) : b.toNat < 128 := by
  unfold txtB at h
  rw [Bool.and_eq_true, Bool.and_eq_true] at h
  have h1 := h.1.2
  unfold isTextB at h1
  rw [Bool.and_eq_true] at h1
  have h2 := List.all_eq_true.1 h1.2 b hb
  unfold textC at h2
  simp only [Bool.and_eq_true, decide_eq_true_eq] at h2
  have : (b.toNat : Int) ≤ 126 := h2.1.2
  omega
theorem ascii_of_chk {k l : Bs} (hk : k = [76, 79] ∨ k = [85, 73]) (h : chk k l = 0) {b : UInt8} (hb : b ∈ l) : b.toNat < 128 := by
  have hl : l ≠ [] := by rintro rfl; simp at hb
  unfold chk at h
  rw [if_neg (fun h => hl h.2)] at h
  rcases hk with rfl | rfl
  · refine txtB_ascii (l := l) ?_ hb
    by_cases e : txtB l = true
    · exact e
    · simp [chkF, e] at h
  · refine nameB_ascii (l := l) ?_ hb
    by_cases e : nameB l = true
    · exact e
    · simp [chkF, e] at h
theorem wild_contains (b : UInt8) : ([42, 63] : List UInt8).contains b = wildB b := by
  unfold wildB
  rw [Bool.eq_iff_iff]
  simp [← UInt8.toNat_inj]
theorem containsAny_wild : ∀ s : Bs, Lib.containsAny s [42, 63] = s.any wildB
  | [] => rfl
  | b :: l => by
    have ih := containsAny_wild l
    have hge := Lib.indexAny_ge [42, 63] l
    unfold Lib.containsAny at ih ⊢
    rw [Lib.indexAny, wild_contains, List.any_cons]
    cases wildB b
    · rw [if_neg (by decide), Bool.false_or, ← ih]
      by_cases e : Lib.indexAny l [42, 63] = -1
      · rw [e]; rfl
      · rw [if_neg (by simpa using e), decide_eq_true (by omega), decide_eq_true (by omega)]
    · rw [if_pos rfl]; rfl
set_option maxRecDepth 20000 in
set_option maxHeartbeats 2000000 in
theorem isPlain_any (w : World) (t : Int) (kd vl : By) (ad : Option Addr) (m c : Nat) (hs : vl.length ≤ 64) (hasc : chk kd vl = 0 → ∀ b ∈ vl, b.toNat < 128) (hv : Vars w) :
    Calls Tryz.prog 179 #[.agg #[.int .i64 t, .string (bs kd), .string (bs vl), .slice ad m c]] w fun e w' => e = .returned (.bool (plainV kd vl)) ∧ Below w.heap.size w w' := by
  have u1 := Below.alloc (Below.refl w.heap.size w) (Nat.le_refl _) (.cells #[.int .i64 t, .string (bs kd), .string (bs vl), .slice ad m c] 73)
  have U1 := hid u1
  have V := hid (hv.up u1)
  clear hv u1
  have HP := hid (show plainV kd vl = (!vl.any wildB && (decide (vl ≠ []) && decide (chk kd vl = 0))) from rfl)
  have x1 := bs_toList kd
  have x2 := bs_toList vl
  by_cases he : vl = []
  · subst he
    have hF := hid (show plainV kd [] = false by rw [HP.out]; simp)
    clear HP hasc
    go_enter Tryz.func179, Tryz.ntmps179
    go_wp2
    go_ret
    rw [hF.out]
    exact ⟨rfl, U1.out⟩
  have he2 : vl.isEmpty = false := by rw [List.isEmpty_eq_false_iff]; exact he
  have he3 : (vl == []) = false := beq_eq_false_iff_ne.2 he
  have HP2 := hid (show plainV kd vl = (!vl.any wildB && decide (chk kd vl = 0)) by rw [HP.out, decide_eq_true he, Bool.true_and])
  have C1 := hid (fun (W : World) (hW : Vars W) => Check_any (bs kd) (bs vl) W (by rw [bs_size]; omega) hW)
  have HA := hid hasc
  clear HP he hasc
  go_enter Tryz.func179, Tryz.ntmps179
  go_wp2_with fail
  go_at_call 13
  refine (C1.out _ V.out).mono ?_
  rintro e w2 ⟨rfl, u2⟩
  have U2 := hid (U1.out.trans (Below.mono u2 (by simp)))
  have x3 : w2.cell? ⟨w.heap.size, 2, none⟩ = some (.string (bs vl)) := ((Below.block u2 _ (by simp)) |> World.cell?_of_block).trans (Four.new w (.int .i64 t) (.string (bs kd)) (.string (bs vl)) (.slice ad m c)).cells.1.2.2.1
  clear u2 C1
  rw [bs_list, bs_list]
  by_cases hc : chk kd vl = 0
  · have C2 := hid (Tryz.strings_ContainsAny_laid (bs vl) ⟨#[42, 63]⟩ w2 (by rw [bs_size]; omega) (by decide) (fun j b hb => HA.out hc b (List.mem_of_getElem? hb)) (fun j b hb => by
      have hb' : ([42, 63] : List UInt8)[j]? = some b := hb
      have hm := List.mem_of_getElem? hb'
      simp only [List.mem_cons, List.not_mem_nil, or_false] at hm
      rcases hm with rfl | rfl <;> decide))
    have hF := hid (show plainV kd vl = !vl.any wildB by rw [HP2.out, decide_eq_true hc, Bool.and_true])
    rw [hc]
    clear HP2 hc HA
    go_wp2_with fail
    go_at_call 230
    refine C2.out.mono ?_
    rintro e w3 ⟨rfl, u3⟩
    have U3 := hid (U2.out.trans (u3.mono U2.out.size))
    have hW := hid (show Lib.containsAny (bs vl).data.toList (⟨#[42, 63]⟩ : ByteArray).data.toList = vl.any wildB from containsAny_wild vl)
    rw [hW.out]
    clear u3 C2 hW
    generalize vl.any wildB = bb at hF ⊢
    cases bb
    all_goals
      go_wp2
      go_ret
      rw [hF.out]
      exact ⟨rfl, U3.out⟩
  · have hF := hid (show plainV kd vl = false by rw [HP2.out, decide_eq_false hc, Bool.and_false])
    have hc2 : (chk kd vl == 0) = false := beq_eq_false_iff_ne.2 hc
    clear HP2 HA hc
    generalize chk kd vl = cc at hc2 ⊢
    go_wp2
    go_ret
    rw [hF.out]
    exact ⟨rfl, U2.out⟩
/-- Names that are asked for are no patterns. -/
def plainE {n : Nat} (q : List (El (n + 1))) (i : Nat) : Bool := plainV (match findE q (nameT i) with | some x => x.2.1 | none => []) (textE q (nameT i))
def aboveE {n : Nat} (q : List (El (n + 1))) (lvl : Int) (r : List Nat) : Bool := r.all (fun i => !decide ((i : Int) < lvl) || plainE q i)
theorem aboveE_drop {n : Nat} (q : List (El (n + 1))) (lvl : Int) {k : Nat} (h : k < 4) : aboveE q lvl ([0, 1, 2, 3].drop k) = ((!decide ((k : Int) < lvl) || plainE q k) && aboveE q lvl ([0, 1, 2, 3].drop (k + 1))) := by
  rw [drop4 h]; unfold aboveE; rw [List.all_cons]
abbrev namesVl : Value := .agg #[.int .i64 1048608, .int .i64 2097165, .int .i64 2097166, .int .i64 524312]
set_option maxRecDepth 20000 in
set_option maxHeartbeats 2000000 in
theorem hasNamesAbove_any (n : Nat) (F : Nat → Prop) (w : World) (v : Value) (q : List (El (n + 1))) (lvl : Int) (h : Rd w F (n + 1) v q) (hl : q.length ≤ 24) (hq : ∀ x ∈ q, x.2.2.1.length ≤ 64) (hk : ∀ x ∈ q, x.2.1 = kindT x.1) (hn : NamesV w) (hv : Vars w) :
    Calls Tryz.prog 111 #[v, .int .i64 lvl] w fun e w' => e = .returned (.bool (aboveE q lvl [0, 1, 2, 3])) ∧ Below w.heap.size w w' := by
  have H := hid h
  have V := hid hv
  have HQ := hid hq
  have HK := hid hk
  have n0 : w.cell? ⟨1, 0, none⟩ = some (.int .i64 1048608) := hn 0 (by omega)
  have n1 : w.cell? ⟨1, 1, none⟩ = some (.int .i64 2097165) := hn 1 (by omega)
  have n2 : w.cell? ⟨1, 2, none⟩ = some (.int .i64 2097166) := hn 2 (by omega)
  have n3 : w.cell? ⟨1, 3, none⟩ = some (.int .i64 524312) := hn 3 (by omega)
  clear h hn hv hq hk
  go_enter Tryz.func111, Tryz.ntmps111
  go_wp2_with fail
  go_loopw [8] (fun i wr => ∃ k : Nat, k ≤ 4 ∧ i = .int .i64 k ∧ Hid (Below w.heap.size w wr) ∧ Hid (aboveE q lvl [0, 1, 2, 3] = aboveE q lvl ([0, 1, 2, 3].drop k))) (fun i _ => 4 - (intOf i).toNat)
  case atStart => exact ⟨0, by omega, rfl, Below.refl _ _, rfl⟩
  case round =>
    obtain ⟨k, hk, rfl, hU, hE⟩ := hrel
    by_cases hkl : k < 4
    · have hix : (Instr.index 66 namesVl (.int .i64 k)).run Tryz.prog wr = .ok (.int .i64 (nameT k)) wr := by
        rcases (show k = 0 ∨ k = 1 ∨ k = 2 ∨ k = 3 by omega) with rfl | rfl | rfl | rfl <;> kernel_rfl
      have hE2 := hid (hE.out.trans (aboveE_drop q lvl hkl))
      have hkn : kindT (nameT k) = [76, 79] ∨ kindT (nameT k) = [85, 73] := by
        rcases (show k = 0 ∨ k = 1 ∨ k = 2 ∨ k = 3 by omega) with rfl | rfl | rfl | rfl <;> decide
      clear hE
      by_cases hlt : (k : Int) < lvl
      · have hE3 := hid (hE2.out.trans (by rw [decide_eq_true hlt]; rfl : _ = (plainE q k && aboveE q lvl ([0, 1, 2, 3].drop (k + 1)))))
        clear hE2
        go_wp2_with fail
        go_at_call 109
        refine (elementOf_any n F _ v q (nameT k) (H.out.up hU.out) hl).mono ?_
        rintro e w1 ⟨u1, hf⟩
        have hx : ∃ (t : Int) (kd vl : By) (ad2 : Option Addr) (n2 cap2 : Nat), e = .returned (.agg #[.int .i64 t, .string (bs kd), .string (bs vl), .slice ad2 n2 cap2]) ∧ Hid (plainE q k = plainV kd vl) ∧ vl.length ≤ 64 ∧ Hid (chk kd vl = 0 → ∀ b ∈ vl, b.toNat < 128) := by
          rcases hf with ⟨h1, h2⟩ | ⟨x, iv, h1, h2, h3⟩
          · exact ⟨0, [], [], none, 0, 0, h2, by unfold Hid plainE textE; rw [h1], by decide, fun _ b hb => by simp at hb⟩
          · obtain ⟨ad2, cap2, h4⟩ := h3.slice
            subst h4
            have hm := List.mem_of_find?_eq_some h1
            have ht : x.1 = nameT k := by have := List.find?_some h1; simpa using this
            refine ⟨x.1, x.2.1, x.2.2.1, ad2, _, cap2, h2, by unfold Hid plainE textE; rw [h1], HQ.out x hm, fun hc b hb => ?_⟩
            rw [HK.out x hm, ht] at hc
            exact ascii_of_chk hkn hc hb
        obtain ⟨t, kd, vl, ad2, n2, cap2, rfl, hP, hvl, hasc⟩ := hx
        have U1 := hid (hU.out.trans (u1.mono hU.out.size))
        clear hf u1 hkn
        go_wp2_with fail
        go_at_call 179
        refine (isPlain_any _ t kd vl ad2 n2 cap2 hvl hasc.out (V.out.up U1.out)).mono ?_
        rintro e w2 ⟨rfl, u2⟩
        have U2 := hid (U1.out.trans (u2.mono U1.out.size))
        clear u2
        rw [← hP.out]
        generalize plainE q k = pb at hE3 ⊢
        cases pb
        · go_wp2
          go_ret
          rw [hE3.out]
          exact ⟨rfl, U2.out⟩
        · go_wp2
          go_roundw
          case rel => exact ⟨k + 1, by omega, by go_num, U2, by unfold Hid; rw [hE3.out]; rfl⟩
          case measure => simp [intOf]; omega
      · have hE3 := hid (hE2.out.trans (by rw [decide_eq_false hlt]; rfl : _ = aboveE q lvl ([0, 1, 2, 3].drop (k + 1))))
        clear hE2
        go_wp2
        go_roundw
        case rel => exact ⟨k + 1, by omega, by go_num, hU, hE3⟩
        case measure => simp [intOf]; omega
    · obtain rfl : k = 4 := by omega
      have hF := hid (show aboveE q lvl [0, 1, 2, 3] = true from hE.out)
      clear hE
      go_wp2
      go_ret
      rw [hF.out]
      exact ⟨rfl, hU.out⟩
theorem fstE_zero {α : Type} {f : α → Int} : ∀ {l : List α}, fstE f l = 0 → ∀ x ∈ l, f x = 0
  | [], _, x, hx => by simp at hx
  | y :: l, h, x, hx => by
    rw [fstE] at h
    by_cases e : f y = 0
    · rw [if_neg (fun h => h e)] at h
      rcases List.mem_cons.1 hx with rfl | hx
      · exact e
      · exact fstE_zero h x hx
    · rw [if_pos e] at h; exact absurd h e
theorem keyE_kind {n : Nat} {lvl : Int} {x : El (n + 2)} (h : keyE lvl x = 0) : x.2.1 = kindT x.1 := by
  unfold keyE at h
  by_cases h1 : lvl < rowT x.1
  · rw [if_pos h1] at h; cases h
  rw [if_neg h1] at h
  by_cases h2 : x.1 = 533016 ∧ x.2.1 = SQ
  · rw [h2.1, h2.2]; decide
  rw [if_neg h2] at h
  unfold patE at h
  by_cases h3 : x.2.1 = kindT x.1
  · exact h3
  · rw [if_pos h3] at h; cases h
/-- What is wrong with a query. -/
def askE {n : Nat} (lvl : Int) (q : List (El (n + 2))) : Int := if lvl = -1 then 10 else if fstE (keyE lvl) q ≠ 0 then fstE (keyE lvl) q else if aboveE q lvl [0, 1, 2, 3] = true then 0 else 7
set_option maxRecDepth 20000 in
set_option maxHeartbeats 2000000 in
theorem checkQuery_any (n : Nat) (F : Nat → Prop) (w : World) (v : Value) (q : List (El (n + 2))) (lvl : Int) (h : Rd w F (n + 2) v q) (hl : q.length ≤ 24) (hq : ∀ x ∈ q, x.2.2.1.length ≤ 64 ∧ x.2.2.2.length ≤ 8 ∧ ∀ s ∈ x.2.2.2, s.length ≤ 24 ∧ ∀ y ∈ s, y.2.2.1.length ≤ 64) (hn : NamesV w) (hv : Vars w) :
    Calls Tryz.prog 61 #[v, .int .i64 lvl] w fun e w' => e = .returned (.int .i64 (askE lvl q)) ∧ Below w.heap.size w w' := by
  obtain ⟨ad, cap, rfl⟩ := h.slice
  have H := hid h
  have V := hid hv
  have HQ := hid hq
  have HN := hid hn
  clear h hv hq hn
  have hE := hid (show askE lvl q = if lvl = -1 then 10 else if fstE (keyE lvl) q ≠ 0 then fstE (keyE lvl) q else if aboveE q lvl [0, 1, 2, 3] = true then 0 else 7 from rfl)
  by_cases h1 : lvl = -1
  · have hF := hid (hE.out.trans (if_pos h1))
    subst h1
    clear hE
    go_enter Tryz.func61, Tryz.ntmps61
    go_wp2
    go_ret
    rw [hF.out]
    exact ⟨rfl, Below.refl _ _⟩
  have hE2 := hid (hE.out.trans (if_neg h1))
  have h2 : (lvl == -1) = false := beq_eq_false_iff_ne.2 h1
  clear hE h1
  go_enter Tryz.func61, Tryz.ntmps61
  go_wp2_with fail
  go_loopw [12] (fun i wr => ∃ k : Nat, k ≤ q.length ∧ i = .int .i64 k ∧ Hid (Below w.heap.size w wr) ∧ Hid (fstE (keyE lvl) q = fstE (keyE lvl) (q.drop k))) (fun i _ => q.length - (intOf i).toNat)
  case atStart => exact ⟨0, Nat.zero_le _, rfl, Below.refl _ _, rfl⟩
  case round =>
    obtain ⟨k, hk, rfl, hU, hF⟩ := hrel
    by_cases hkl : k < q.length
    · have hat := hid ((H.out.up hU.out).at (List.getElem?_eq_getElem hkl))
      obtain ⟨a, ad2, cap2, rfl, _, c0, c1, c2, c3, hrd⟩ := hat.out
      have hxk := hid (HQ.out _ (List.getElem_mem hkl))
      have hst := hid (hF.out.trans (fstE_drop _ hkl))
      have hrd2 := hid hrd
      clear hrd hat hF
      generalize q[k] = x at c0 c1 c2 c3 hrd2 hst hxk
      have u1 := Below.alloc (Below.refl wr.heap.size wr) (Nat.le_refl _) (.cells #[.int .i64 x.1, .string (bs x.2.1), .string (bs x.2.2.1), .slice ad2 x.2.2.2.length cap2] 73)
      have hX := (Four.new wr (.int .i64 x.1) (.string (bs x.2.1)) (.string (bs x.2.2.1)) (.slice ad2 x.2.2.2.length cap2)).cells
      obtain ⟨⟨x0, x1, x2, x3⟩, _⟩ := hX
      have U1 := hid (hU.out.trans (u1.mono hU.out.size))
      have hrd3 := hid (hrd2.out.up u1)
      clear u1 hrd2
      go_wp2_with fail
      go_at_call 110
      refine (checkKey_any n F _ x ad2 x.2.2.2.length cap2 lvl hrd3.out hxk.out.1 hxk.out.2.1 hxk.out.2.2 (V.out.up U1.out)).mono ?_
      rintro e w2 ⟨rfl, u2⟩
      have U2 := hid (U1.out.trans (u2.mono U1.out.size))
      clear u2 hrd3
      generalize keyE lvl x = c at hst ⊢
      by_cases hc : c = 0
      · have hG := hid (hst.out.trans (if_neg (fun h => h hc)))
        subst hc
        clear hst
        go_wp2
        go_roundw
        case rel => exact ⟨k + 1, by omega, by go_num, U2, hG⟩
        case measure => simp [intOf]; omega
      · have hG := hid (hst.out.trans (if_pos hc))
        have hc2 : (c == 0) = false := beq_eq_false_iff_ne.2 hc
        have hR := hid (show askE lvl q = c by rw [hE2.out, hG.out]; exact if_pos hc)
        clear hst
        go_wp2
        go_ret
        rw [hR.out]
        exact ⟨rfl, U2.out⟩
    · have hG := hid (hF.out.trans (fstE_end _ (by omega)))
      have hR := hid (hE2.out.trans (if_neg (fun h => h hG.out)))
      have hkk := hid (fun x hx => keyE_kind (fstE_zero hG.out x hx))
      clear hF hE2
      go_wp2_with fail
      go_at_call 111
      refine (hasNamesAbove_any (n + 1) F _ _ q lvl (H.out.up hU.out) hl (fun x hx => (HQ.out x hx).1) hkk.out (HN.out.up hU.out) (V.out.up hU.out)).mono ?_
      rintro e w2 ⟨rfl, u2⟩
      have U2 := hid (hU.out.trans (u2.mono hU.out.size))
      clear u2
      generalize aboveE q lvl [0, 1, 2, 3] = b at hR ⊢
      cases b
      all_goals
        go_wp2
        go_ret
        rw [hR.out]
        exact ⟨rfl, U2.out⟩
end Go.Proofs.YtaokifbpakbgdaaGreatDoor

/- Package folioref on archives: rowOf, key. -/
namespace Go.Proofs.YtaokifbpakbgdaaGreatDoor
open Go.RowKit

def tagsA : List Int := [1048608, 1048592, 1048624, 2101760, 2097165, 524320, 524336, 524368, 2101766, 2097166, 524384, 2097169, 2101769, 524312, 2097171, 533016]
end Go.Proofs.YtaokifbpakbgdaaGreatDoor

/- Package archive: does something fit a key? fitsKey at a value, fitsItem, the closure of fitsParts. -/
namespace Go.Proofs.YtaokifbpakbgdaaGreatDoor
open Go.RowKit

set_option maxRecDepth 20000 in
set_option maxHeartbeats 2000000 in
theorem fitsKeyV_any (w : World) (t : Int) (kd pv : By) (ad : Option Addr) (m c : Nat) (t2 : Int) (kd2 vl : By) (ad2 : Option Addr) (m2 c2 : Nat) (hp : pv.length ≤ 64) (hl : vl.length ≤ 64) (hk : kd ≠ SQ) (hv : Vars w) :
    Calls Tryz.prog 185 #[.agg #[.int .i64 t, .string (bs kd), .string (bs pv), .slice ad m c], .agg #[.int .i64 t2, .string (bs kd2), .string (bs vl), .slice ad2 m2 c2]] w fun e w' => e = .returned (.bool (matchV kd pv vl)) ∧ Below w.heap.size w w' := by
  have C := hid (fun (W : World) (hW : Vars W) => Match_any (bs kd) (bs pv) (bs vl) W (by rw [bs_size]; omega) (by rw [bs_size]; omega) hW)
  have x1 := bs_toList kd
  have hk2 : (kd == [83, 81]) = false := beq_eq_false_iff_ne.2 hk
  have u1 := Below.alloc (Below.alloc (Below.refl w.heap.size w) (Nat.le_refl _) (.cells #[.int .i64 t, .string (bs kd), .string (bs pv), .slice ad m c] 73)) (by simp) (.cells #[.int .i64 t2, .string (bs kd2), .string (bs vl), .slice ad2 m2 c2] 73)
  have U1 := hid u1
  have V := hid (hv.up u1)
  clear u1 hv hk
  go_enter Tryz.func185, Tryz.ntmps185
  go_wp2_with fail
  go_at_call 12
  refine (C.out _ V.out).mono ?_
  rintro e w2 ⟨rfl, u2⟩
  have U2 := hid (U1.out.trans (Below.mono u2 U1.out.size))
  clear u2 C
  rw [bs_list, bs_list, bs_list]
  generalize hG : matchV kd pv vl = b
  have HG := hid hG
  clear hG
  generalize matchE kd pv vl = ee
  go_wp2
  go_ret
  exact ⟨by rw [HG.out]; rfl, U2.out⟩
/-- An element of an item fits one that was asked for; an item. -/
def fitY {n : Nat} (s : List (El (n + 1))) (y : El (n + 1)) : Bool := matchV y.2.1 y.2.2.1 (textE s y.1)
def fitS {n : Nat} (a s : List (El (n + 1))) : Bool := a.all (fitY s)
theorem all_drop {α : Type} (f : α → Bool) {l : List α} {k : Nat} (h : k < l.length) : (l.drop k).all f = (f l[k] && (l.drop (k + 1)).all f) := by rw [List.drop_eq_getElem_cons h, List.all_cons]
theorem anyb_drop {α : Type} (f : α → Bool) {l : List α} {k : Nat} (h : k < l.length) : (l.drop k).any f = (f l[k] || (l.drop (k + 1)).any f) := by rw [List.drop_eq_getElem_cons h, List.any_cons]
set_option maxRecDepth 20000 in
set_option maxHeartbeats 2000000 in
theorem fitsItem_any (n : Nat) (F G : Nat → Prop) (w : World) (v1 v2 : Value) (a s : List (El (n + 1))) (h1 : Rd w F (n + 1) v1 a) (h2 : Rd w G (n + 1) v2 s) (ha : a.length ≤ 24) (hs : s.length ≤ 24) (hax : ∀ y ∈ a, y.2.1 ≠ SQ ∧ y.2.2.1.length ≤ 64) (hsx : ∀ y ∈ s, y.2.2.1.length ≤ 64) (hv : Vars w) :
    Calls Tryz.prog 280 #[.agg #[v1], .agg #[v2]] w fun e w' => e = .returned (.bool (fitS a s)) ∧ Below w.heap.size w w' := by
  obtain ⟨ad1, cap1, rfl⟩ := h1.slice
  obtain ⟨ad2, cap2, rfl⟩ := h2.slice
  have u1 := Below.alloc (Below.alloc (Below.refl w.heap.size w) (Nat.le_refl _) (.cells #[.slice ad1 a.length cap1] 182)) (by simp) (.cells #[.slice ad2 s.length cap2] 182)
  have hb2 : ((w.alloc (.cells #[.slice ad1 a.length cap1] 182)).alloc (.cells #[.slice ad2 s.length cap2] 182)).heap[w.heap.size + 1]? = some (.cells #[.slice ad2 s.length cap2] 182 (0, 0)) := by
    have := heap_alloc_new (w.alloc (.cells #[.slice ad1 a.length cap1] 182)) (.cells #[.slice ad2 s.length cap2] 182)
    simpa using this
  have HB := hid hb2
  have U1 := hid u1
  have H1 := hid h1
  have H2 := hid h2
  have V := hid hv
  have HA := hid hax
  have HS := hid hsx
  clear h1 h2 hv hax hsx u1 hb2
  go_enter Tryz.func280, Tryz.ntmps280
  go_wp2_with fail
  go_loopw [10] (fun i wr => ∃ k : Nat, k ≤ a.length ∧ i = .int .i64 k ∧ Hid (Below w.heap.size w wr) ∧ Hid (wr.heap[w.heap.size + 1]? = some (.cells #[.slice ad2 s.length cap2] 182 (0, 0))) ∧ Hid (fitS a s = (a.drop k).all (fitY s))) (fun i _ => a.length - (intOf i).toNat)
  case atStart => exact ⟨0, Nat.zero_le _, rfl, U1, HB, rfl⟩
  case round =>
    obtain ⟨k, hk, rfl, hU, hB, hE⟩ := hrel
    by_cases hkl : k < a.length
    · have hat := hid ((H1.out.up hU.out).at (List.getElem?_eq_getElem hkl))
      obtain ⟨a3, ad3, cap3, rfl, _, d0, d1, d2, d3, _⟩ := hat.out
      have hy := hid (HA.out _ (List.getElem_mem hkl))
      have hst := hid (hE.out.trans (all_drop _ hkl))
      clear hat hE
      generalize a[k] = y at d0 d1 d2 d3 hy hst
      have u2 := Below.alloc (Below.refl wr.heap.size wr) (Nat.le_refl _) (.cells #[.int .i64 y.1, .string (bs y.2.1), .string (bs y.2.2.1), .slice ad3 y.2.2.2.length cap3] 73)
      have hX := (Four.new wr (.int .i64 y.1) (.string (bs y.2.1)) (.string (bs y.2.2.1)) (.slice ad3 y.2.2.2.length cap3)).cells
      obtain ⟨⟨x0, x1, x2, x3⟩, _⟩ := hX
      have U2 := hid (hU.out.trans (u2.mono hU.out.size))
      have hlt := lt_of_block hB.out
      have HB2 := hid ((u2.block _ hlt).trans hB.out)
      have z0 : (wr.alloc (.cells #[.int .i64 y.1, .string (bs y.2.1), .string (bs y.2.2.1), .slice ad3 y.2.2.2.length cap3] 73)).cell? ⟨w.heap.size + 1, 0, none⟩ = some (.slice ad2 s.length cap2) := by simp [World.cell?, HB2.out]
      have C1 := hid (fun W (hW : Below w.heap.size w W) => elementOf_any n G W _ s y.1 (H2.out.up hW) hs)
      have C2 := hid (fun W (hW : Below w.heap.size w W) (t2 : Int) (kd2 vl : By) (ad4 : Option Addr) (m4 c4 : Nat) (hvl : vl.length ≤ 64) => fitsKeyV_any W y.1 y.2.1 y.2.2.1 ad3 y.2.2.2.length cap3 t2 kd2 vl ad4 m4 c4 hy.out.2 hvl hy.out.1 (V.out.up hW))
      clear u2 hlt
      go_wp2_with fail
      go_region_with (first
        | (go_at_call 109
           refine (C1.out _ U2.out.drew).mono ?_
           rintro e w3 ⟨u3, hf⟩
           have hx : ∃ (t : Int) (kd vl : By) (ad4 : Option Addr) (n4 cap4 : Nat), e = .returned (.agg #[.int .i64 t, .string (bs kd), .string (bs vl), .slice ad4 n4 cap4]) ∧ Hid (fitY s y = matchV y.2.1 y.2.2.1 vl) ∧ vl.length ≤ 64 := by
             rcases hf with ⟨h1, h2⟩ | ⟨x, iv, h1, h2, h3⟩
             · exact ⟨0, [], [], none, 0, 0, h2, by unfold Hid fitY textE; rw [h1], by decide⟩
             · obtain ⟨ad4, cap4, h4⟩ := h3.slice
               subst h4
               exact ⟨x.1, x.2.1, x.2.2.1, ad4, _, cap4, h2, by unfold Hid fitY textE; rw [h1], HS.out x (List.mem_of_find?_eq_some h1)⟩
           obtain ⟨t, kd, vl, ad4, n4, cap4, rfl, hP, hvl⟩ := hx
           have U3 := hid (U2.out.drew.trans (u3.mono U2.out.drew.size))
           have HB3 := hid ((u3.block _ (lt_of_block HB2.out)).trans HB2.out)
           have X3 := hid (Four.keep (Four.new wr (.int .i64 y.1) (.string (bs y.2.1)) (.string (bs y.2.2.1)) (.slice ad3 y.2.2.2.length cap3)) (u3.block wr.heap.size (show wr.heap.size < (wr.alloc _).heap.size by simp)))
           obtain ⟨⟨y0, y1, y2, y3⟩, _⟩ := X3.out.cells
           clear hf u3)
        | (go_at_call 185
           refine (C2.out _ U3.out t kd vl ad4 n4 cap4 hvl).mono ?_
           rintro e w4 ⟨rfl, u4⟩
           have U4 := hid (U3.out.trans (u4.mono U3.out.size))
           have HB4 := hid ((u4.block _ (lt_of_block HB3.out)).trans HB3.out)
           clear u4
           rw [← hP.out]))
      all_goals
        generalize fitY s y = b at hst ⊢
        cases b
        · go_wp2
          go_ret
          rw [hst.out]
          exact ⟨rfl, U4.out⟩
        · go_wp2
          go_roundw
          case rel => exact ⟨k + 1, by omega, by go_num, U4, HB4, hst⟩
          case measure => simp [intOf]; omega
    · have hF := hid (show fitS a s = true by rw [hE.out, List.drop_eq_nil_of_le (by omega)]; rfl)
      clear hE
      go_wp2
      go_ret
      rw [hF.out]
      exact ⟨rfl, hU.out⟩
end Go.Proofs.YtaokifbpakbgdaaGreatDoor

/- Package archive: does something fit a key? The closure of fitsParts, slices.IndexFunc and ContainsFunc over it, fitsParts, fitsKey. -/
namespace Go.Proofs.YtaokifbpakbgdaaGreatDoor
open Go.RowKit

set_option maxRecDepth 20000 in
set_option maxHeartbeats 2000000 in
theorem fitsClo_any (n : Nat) (F G : Nat → Prop) (w : World) (b : Nat) (ad : Option Addr) (m c : Nat) (v2 : Value) (a : List (El (n + 1))) (r : Its (n + 1)) (s : List (El (n + 1))) (hb : w.cell? ⟨b, 0, none⟩ = some (.slice ad m c)) (h1 : RdI w F (n + 1) (.slice ad m c) (a :: r)) (h2 : Rd w G (n + 1) v2 s) (ha : a.length ≤ 24) (hs : s.length ≤ 24) (hax : ∀ y ∈ a, y.2.1 ≠ SQ ∧ y.2.2.1.length ≤ 64) (hsx : ∀ y ∈ s, y.2.2.1.length ≤ 64) (hv : Vars w) :
    Calls Tryz.prog 279 #[.agg #[v2], .pointer (some ⟨b, 0, none⟩)] w fun e w' => e = .returned (.bool (fitS a s)) ∧ Below w.heap.size w w' := by
  obtain ⟨ad2, cap2, rfl⟩ := h2.slice
  have hat := h1.at (i := 0) (x := a) rfl
  obtain ⟨p, ad3, cap3, rfl, _, c0, hrd⟩ := hat
  have hm0 : 0 < m := by
    obtain ⟨ad', cap', hvv, _⟩ := h1
    rw [(Value.slice.inj hvv).2.1]; simp
  have u1 := Below.alloc (Below.refl w.heap.size w) (Nat.le_refl _) (.cells #[.slice ad2 s.length cap2] 182)
  have U1 := hid u1
  have d0 := (u1.cell (World.block_lt_of_cell? _ _ c0)).trans c0
  have d1 := (u1.cell (World.block_lt_of_cell? _ _ hb)).trans hb
  have d2 := d0
  rw [Addr.add_zero'] at d2
  have C := hid (fun (W : World) (hW : Below w.heap.size w W) => fitsItem_any n F G W _ _ a s (hrd.up hW) (h2.up hW) ha hs hax hsx (hv.up hW))
  clear h1 h2 hax hsx hv hrd u1 c0 hb
  go_enter Tryz.func279, Tryz.ntmps279
  go_wp2_with fail
  go_region_with (go_at_call 280; refine (C.out _ U1.out.drew).mono ?_; rintro e w2 ⟨rfl, u2⟩)
  all_goals
    have U2 := hid (U1.out.drew.trans (u2.mono U1.out.drew.size))
    clear u2
    go_wp2
    go_ret
    exact ⟨rfl, U2.out⟩
set_option maxRecDepth 20000 in
set_option maxHeartbeats 2000000 in
theorem fitsIndex_any (n : Nat) (F G : Nat → Prop) (w : World) (b : Nat) (ad : Option Addr) (m c : Nat) (v2 : Value) (a : List (El (n + 1))) (r its : Its (n + 1)) (hb : w.cell? ⟨b, 0, none⟩ = some (.slice ad m c)) (h1 : RdI w F (n + 1) (.slice ad m c) (a :: r)) (h2 : RdI w G (n + 1) v2 its) (ha : a.length ≤ 24) (hi : its.length ≤ 8) (hs : ∀ s ∈ its, s.length ≤ 24 ∧ ∀ y ∈ s, y.2.2.1.length ≤ 64) (hax : ∀ y ∈ a, y.2.1 ≠ SQ ∧ y.2.2.1.length ≤ 64) (hv : Vars w) :
    Calls Tryz.prog 311 #[v2, .func (.func 279) #[] #[.pointer (some ⟨b, 0, none⟩)]] w fun e w' => (∃ i : Int, e = .returned (.int .i64 i) ∧ decide (0 ≤ i) = its.any (fitS a)) ∧ Below w.heap.size w w' := by
  obtain ⟨ad2, cap2, rfl⟩ := h2.slice
  have HS := hid hs
  have H2 := hid h2
  have C := hid (fun (W : World) (hW : Below w.heap.size w W) (v : Value) (s : List (El (n + 1))) (hrd : Rd W G (n + 1) v s) (hsl : s.length ≤ 24) (hsx : ∀ y ∈ s, y.2.2.1.length ≤ 64) => fitsClo_any n F G W b ad m c v a r s ((hW.cell (World.block_lt_of_cell? _ _ hb)).trans hb) (h1.up hW) hrd ha hsl hax hsx (hv.up hW))
  clear hb h1 hax hv h2 hs
  go_enter Tryz.func311, Tryz.ntmps311
  go_wp2_with fail
  go_loopw [8] (fun i wr => ∃ k : Nat, k ≤ its.length ∧ i = .int .i64 k ∧ Hid (its.any (fitS a) = (its.drop k).any (fitS a)) ∧ Hid (Below w.heap.size w wr)) (fun i _ => its.length - (intOf i).toNat)
  case atStart => exact ⟨0, Nat.zero_le _, rfl, rfl, Below.refl _ _⟩
  case round =>
    obtain ⟨k, hk, rfl, hsp, hU⟩ := hrel
    by_cases hkl : k < its.length
    · have hat := hid ((H2.out.up hU.out).at (List.getElem?_eq_getElem hkl))
      obtain ⟨p, ad3, cap3, rfl, _, c0, hrd⟩ := hat.out
      have hst := hid (hsp.out.trans (anyb_drop _ hkl))
      have hsk := hid (HS.out _ (List.getElem_mem hkl))
      have hrd2 := hid hrd
      clear hat hrd hsp
      generalize its[k] = s at c0 hrd2 hsk hst
      go_wp2_with fail
      go_at_call 279
      refine (C.out _ hU.out _ s hrd2.out hsk.out.1 hsk.out.2).mono ?_
      rintro e w2 ⟨rfl, u2⟩
      have U2 := hid (hU.out.trans (u2.mono hU.out.size))
      clear u2
      generalize fitS a s = bb at hst ⊢
      cases bb
      · have hst2 := hid (hst.out.trans (Bool.false_or _))
        clear hst
        go_wp2
        go_roundw
        case rel => exact ⟨k + 1, by omega, by go_num, hst2, U2⟩
        case measure => simp [intOf]; omega
      · have hF := hid (show its.any (fitS a) = true by rw [hst.out, Bool.true_or])
        clear hst
        go_wp2
        go_ret
        exact ⟨⟨_, rfl, by rw [hF.out]; simp⟩, U2.out⟩
    · have hF := hid (show its.any (fitS a) = false by rw [hsp.out, List.drop_eq_nil_of_le (by omega)]; rfl)
      go_wp2
      go_ret
      exact ⟨⟨-1, rfl, by rw [hF.out]; rfl⟩, hU.out⟩
set_option maxRecDepth 20000 in
theorem fitsContains_any (n : Nat) (F G : Nat → Prop) (w : World) (b : Nat) (ad : Option Addr) (m c : Nat) (v2 : Value) (a : List (El (n + 1))) (r its : Its (n + 1)) (hb : w.cell? ⟨b, 0, none⟩ = some (.slice ad m c)) (h1 : RdI w F (n + 1) (.slice ad m c) (a :: r)) (h2 : RdI w G (n + 1) v2 its) (ha : a.length ≤ 24) (hi : its.length ≤ 8) (hs : ∀ s ∈ its, s.length ≤ 24 ∧ ∀ y ∈ s, y.2.2.1.length ≤ 64) (hax : ∀ y ∈ a, y.2.1 ≠ SQ ∧ y.2.2.1.length ≤ 64) (hv : Vars w) :
    Calls Tryz.prog 278 #[v2, .func (.func 279) #[] #[.pointer (some ⟨b, 0, none⟩)]] w fun e w' => e = .returned (.bool (its.any (fitS a))) ∧ Below w.heap.size w w' := by
  have c1 := hid (fitsIndex_any n F G w b ad m c v2 a r its hb h1 h2 ha hi hs hax hv)
  clear hb h1 h2 hs hax hv
  go_enter Tryz.func278, Tryz.ntmps278
  go_wp2_with fail
  go_at_call 311
  refine c1.out.mono ?_
  rintro e w2 ⟨⟨i, rfl, hi⟩, u2⟩
  have U2 := hid u2
  have HI := hid hi
  clear u2 c1 hi
  go_wp2
  go_ret
  exact ⟨ret_bool HI.out, U2.out⟩
/-- Do items fit what was asked for? Of that there is one at most. -/
def fitI {n : Nat} (q its : Its (n + 1)) : Bool := match q with
  | [] => true
  | a :: _ => its.any (fitS a)
set_option maxRecDepth 20000 in
set_option maxHeartbeats 2000000 in
theorem fitsParts_any (n : Nat) (F G : Nat → Prop) (w : World) (v1 v2 : Value) (q its : Its (n + 1)) (h1 : RdI w F (n + 1) v1 q) (h2 : RdI w G (n + 1) v2 its) (hi : its.length ≤ 8) (hq : q.length ≤ 8) (hs : ∀ s ∈ its, s.length ≤ 24 ∧ ∀ y ∈ s, y.2.2.1.length ≤ 64) (hqx : ∀ a ∈ q, a.length ≤ 24 ∧ ∀ y ∈ a, y.2.1 ≠ SQ ∧ y.2.2.1.length ≤ 64) (hv : Vars w) :
    Calls Tryz.prog 237 #[v1, v2] w fun e w' => e = .returned (.bool (fitI q its)) ∧ Below w.heap.size w w' := by
  obtain ⟨ad, cap, rfl⟩ := h1.slice
  have u1 := Below.alloc (Below.refl w.heap.size w) (Nat.le_refl _) (.cells #[.slice ad q.length cap] 71)
  have U1 := hid u1
  have d0 : (w.alloc (.cells #[.slice ad q.length cap] 71)).cell? ⟨w.heap.size, 0, none⟩ = some (.slice ad q.length cap) := by simp
  cases q with
  | nil =>
    clear h1 h2 hs hqx hv u1
    go_enter Tryz.func237, Tryz.ntmps237
    go_wp2
    go_ret
    exact ⟨rfl, U1.out⟩
  | cons a r =>
    have C := hid (fitsContains_any n F G _ w.heap.size ad (a :: r).length cap v2 a r its d0 (h1.up u1) (h2.up u1) (hqx a List.mem_cons_self).1 hi hs (hqx a List.mem_cons_self).2 (hv.up u1))
    obtain ⟨ad2, cap2, rfl⟩ := h2.slice
    have hF := hid (show fitI (a :: r) its = its.any (fitS a) from rfl)
    rw [hF.out]
    have hb : (((a :: r).length : Int) == 0) = false := by simp; omega
    clear h1 h2 hs hqx hv u1 hF
    generalize (a :: r).length = m at *
    generalize its.any (fitS a) = bb at *
    go_enter Tryz.func237, Tryz.ntmps237
    go_wp2_with fail
    go_at_call 278
    refine C.out.mono ?_
    rintro e w2 ⟨rfl, u2⟩
    have U2 := hid (U1.out.trans (u2.mono U1.out.size))
    clear u2 C
    go_wp2
    go_ret
    exact ⟨rfl, U2.out⟩
/-- Does something that has this value and these items fit a key? -/
def fitK {n : Nat} (x : El (n + 2)) (vl : By) (its : Its (n + 1)) : Bool := if x.2.1 = SQ then fitI x.2.2.2 its else matchV x.2.1 x.2.2.1 vl
set_option maxRecDepth 20000 in
set_option maxHeartbeats 2000000 in
theorem fitsKey_any (n : Nat) (F G : Nat → Prop) (w : World) (x : El (n + 2)) (ad : Option Addr) (m c : Nat) (t2 : Int) (kd2 vl : By) (ad2 : Option Addr) (m2 c2 : Nat) (its : Its (n + 1)) (h1 : RdI w F (n + 1) (.slice ad m c) x.2.2.2) (h2 : RdI w G (n + 1) (.slice ad2 m2 c2) its) (hp : x.2.2.1.length ≤ 64) (hl : vl.length ≤ 64) (hi : its.length ≤ 8) (hq : x.2.2.2.length ≤ 8) (hs : ∀ s ∈ its, s.length ≤ 24 ∧ ∀ y ∈ s, y.2.2.1.length ≤ 64) (hqx : ∀ a ∈ x.2.2.2, a.length ≤ 24 ∧ ∀ y ∈ a, y.2.1 ≠ SQ ∧ y.2.2.1.length ≤ 64) (hv : Vars w) :
    Calls Tryz.prog 185 #[.agg #[.int .i64 x.1, .string (bs x.2.1), .string (bs x.2.2.1), .slice ad m c], .agg #[.int .i64 t2, .string (bs kd2), .string (bs vl), .slice ad2 m2 c2]] w fun e w' => e = .returned (.bool (fitK x vl its)) ∧ Below w.heap.size w w' := by
  by_cases hk : x.2.1 = SQ
  · have hF := hid (show fitK x vl its = fitI x.2.2.2 its from if_pos hk)
    have u1 := Below.alloc (Below.alloc (Below.refl w.heap.size w) (Nat.le_refl _) (.cells #[.int .i64 x.1, .string (bs x.2.1), .string (bs x.2.2.1), .slice ad m c] 73)) (by simp) (.cells #[.int .i64 t2, .string (bs kd2), .string (bs vl), .slice ad2 m2 c2] 73)
    have U1 := hid u1
    have C := hid (fitsParts_any n F G _ _ _ x.2.2.2 its (h1.up u1) (h2.up u1) hi hq hs hqx (hv.up u1))
    have x1 : (bs x.2.1).toList = [83, 81] := by rw [bs_toList]; exact hk
    rw [hF.out]
    clear h1 h2 hs hqx hv u1 hF hk
    generalize fitI x.2.2.2 its = bb at *
    go_enter Tryz.func185, Tryz.ntmps185
    go_wp2_with fail
    go_at_call 237
    refine C.out.mono ?_
    rintro e w2 ⟨rfl, u2⟩
    have U2 := hid (U1.out.trans (u2.mono U1.out.size))
    clear u2 C
    go_wp2
    go_ret
    exact ⟨rfl, U2.out⟩
  · rw [show fitK x vl its = matchV x.2.1 x.2.2.1 vl from if_neg hk]
    exact fitsKeyV_any w x.1 x.2.1 x.2.2.1 ad m c t2 kd2 vl ad2 m2 c2 hp hl hk hv
end Go.Proofs.YtaokifbpakbgdaaGreatDoor
