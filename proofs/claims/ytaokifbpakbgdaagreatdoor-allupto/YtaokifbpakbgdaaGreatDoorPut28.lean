/-
  Several texts in one; what each one has stands at its head.
-/
import Derived.Test.YtaokifbpakbgdaaGreatDoorPut27
import Derived.Shelf.SlIter.Nil
import Derived.Shelf.SortM.Plain
import Derived.Shelf.SortM.SortNone
import Derived.Test.YtaokifbpakbgdaaGreatDoorProg
import Derived.Test.YtaokifbpakbgdaaGreatDoorPut26
/- Package archive: a description is asked: fits, answer. -/
namespace Go.Proofs.YtaokifbpakbgdaaGreatDoor
open Go.RowKit Go.Maps Go.Shelf

def itsG {n : Nat} (g : Int → Option (El (n + 1))) (t : Int) : Its n := match g t with
  | some x => x.2.2.2
  | none => []
theorem DMk.look {w : World} {F : Nat → Prop} {n b m : Nat} {g : Int → Option (El (n + 1))} (h : DMk w F n b m g) {t : Int} (ht : -9223372036854775808 ≤ t ∧ t ≤ 9223372036854775807) :
    ∃ (t2 : Int) (kd2 : By) (ad2 : Option Addr) (m2 c2 : Nat), (Instr.lookup 127 (.map (some b)) (.int .i64 t) false).run Tryz.prog w = .ok (.agg #[.int .i64 t2, .string (bs kd2), .string (bs (valG g t)), .slice ad2 m2 c2]) w ∧ RdI w F n (.slice ad2 m2 c2) (itsG g t) := by
  obtain ⟨f, hM, hc⟩ := h
  have hc := hc t
  have hl := hM.look1 (Maps.int_keyed Tryz.underlying3) Tryz.underlying127 (Tryz.zeroValue73 _) (key := .int .i64 t) (kl := .int .i64 t) (Maps.keyOf_int_mk Tryz.underlying3 (int_wf ht))
  unfold valG itsG
  cases hg : g t with
  | none =>
    cases hf : f (.int .i64 t) with
    | some v => rw [hg, hf] at hc; exact hc.elim
    | none =>
      rw [hf] at hl
      exact ⟨0, [], none, 0, 0, hl, RdI.nil _ _ _⟩
  | some x =>
    cases hf : f (.int .i64 t) with
    | none => rw [hg, hf] at hc; exact hc.elim
    | some v =>
      rw [hg, hf] at hc
      obtain ⟨iv, rfl, hi⟩ := hc
      obtain ⟨ad, cap, rfl⟩ := hi.slice
      rw [hf] at hl
      exact ⟨x.1, x.2.1, ad, _, cap, hl, hi⟩
/-- What a description may have. -/
def GoodG {n : Nat} (g : Int → Option (El (n + 2))) : Prop := ∀ t, (valG g t).length ≤ 64 ∧ (itsG g t).length ≤ 8 ∧ ∀ s ∈ itsG g t, s.length ≤ 24 ∧ ∀ y ∈ s, y.2.2.1.length ≤ 64
/-- What keys may have. -/
def GoodQ {n : Nat} (q : List (El (n + 2))) : Prop := q.length ≤ 24 ∧ ∀ x ∈ q, (0 ≤ x.1 ∧ x.1 ≤ 4294967295) ∧ x.2.2.1.length ≤ 64 ∧ x.2.2.2.length ≤ 8 ∧ ∀ a ∈ x.2.2.2, a.length ≤ 24 ∧ ∀ y ∈ a, y.2.1 ≠ SQ ∧ y.2.2.1.length ≤ 64
def fitD1 {n : Nat} (g : Int → Option (El (n + 2))) (x : El (n + 2)) : Bool := fitK x (valG g x.1) (itsG g x.1)
def fitD {n : Nat} (g : Int → Option (El (n + 2))) (q : List (El (n + 2))) : Bool := q.all (fitD1 g)
set_option maxRecDepth 20000 in
set_option maxHeartbeats 2000000 in
theorem dfits_any (n : Nat) (F G : Nat → Prop) (w : World) (c m : Nat) (g : Int → Option (El (n + 2))) (v : Value) (q : List (El (n + 2))) (h1 : DMk w G (n + 1) c m g) (h2 : Rd w F (n + 2) v q) (hg : GoodG g) (hq : GoodQ q) (hv : Vars w) :
    Calls Tryz.prog 113 #[.map (some c), v] w fun e w' => e = .returned (.bool (fitD g q)) ∧ Below w.heap.size w w' := by
  obtain ⟨ad, cap, rfl⟩ := h2.slice
  have H1 := hid h1
  have H2 := hid h2
  have HG := hid hg
  have HQ := hid hq
  have V := hid hv
  have hl := hq.1
  clear h1 h2 hg hq hv
  go_enter Tryz.func113, Tryz.ntmps113
  go_wp2_with fail
  go_loopw [9] (fun i wr => ∃ k : Nat, k ≤ q.length ∧ i = .int .i64 k ∧ Hid (Below w.heap.size w wr) ∧ Hid (fitD g q = (q.drop k).all (fitD1 g))) (fun i _ => q.length - (intOf i).toNat)
  case atStart => exact ⟨0, Nat.zero_le _, rfl, Below.refl _ _, rfl⟩
  case round =>
    obtain ⟨k, hk, rfl, hU, hE⟩ := hrel
    by_cases hkl : k < q.length
    · have hat := hid ((H2.out.up hU.out).at (List.getElem?_eq_getElem hkl))
      obtain ⟨a3, ad3, cap3, rfl, _, d0, d1, d2, d3, hrd⟩ := hat.out
      have hx := hid (HQ.out.2 _ (List.getElem_mem hkl))
      have hst := hid (hE.out.trans (all_drop _ hkl))
      have hrd2 := hid hrd
      clear hat hE hrd
      generalize q[k] = x at d0 d1 d2 d3 hx hst hrd2
      have u2 := Below.alloc (Below.refl wr.heap.size wr) (Nat.le_refl _) (.cells #[.int .i64 x.1, .string (bs x.2.1), .string (bs x.2.2.1), .slice ad3 x.2.2.2.length cap3] 73)
      have hX := (Four.new wr (.int .i64 x.1) (.string (bs x.2.1)) (.string (bs x.2.2.1)) (.slice ad3 x.2.2.2.length cap3)).cells
      obtain ⟨⟨x0, x1, x2, x3⟩, _⟩ := hX
      have U2 := hid (hU.out.trans (u2.mono hU.out.size))
      obtain ⟨t2, kd2, ad2, m2, c2, hlk, hit⟩ := (H1.out.up U2.out).look (t := x.1) (by have := hx.out.1; omega)
      have hgx := hid (HG.out x.1)
      have C := hid (fitsKey_any n F G _ x ad3 x.2.2.2.length cap3 t2 kd2 (valG g x.1) ad2 m2 c2 (itsG g x.1) (hrd2.out.up u2) hit hx.out.2.1 hgx.out.1 hgx.out.2.1 hx.out.2.2.1 hgx.out.2.2 hx.out.2.2.2 (V.out.up U2.out))
      have hF1 := hid (show fitD1 g x = fitK x (valG g x.1) (itsG g x.1) from rfl)
      clear u2 hit hrd2 hgx
      generalize valG g x.1 = vl at *
      go_wp2_with fail
      go_at_call 185
      refine C.out.mono ?_
      rintro e w4 ⟨rfl, u4⟩
      have U4 := hid (U2.out.trans (u4.mono U2.out.size))
      clear u4 C
      rw [← hF1.out]
      generalize fitD1 g x = b at hst ⊢
      cases b
      · go_wp2
        go_ret
        rw [hst.out]
        exact ⟨rfl, U4.out⟩
      · go_wp2
        go_roundw
        case rel => exact ⟨k + 1, by omega, by go_num, U4, hst⟩
        case measure => simp [intOf]; omega
    · have hF := hid (show fitD g q = true by rw [hE.out, List.drop_eq_nil_of_le (by omega)]; rfl)
      clear hE
      go_wp2
      go_ret
      rw [hF.out]
      exact ⟨rfl, hU.out⟩
/-- What a description answers to keys. -/
def ansE {n : Nat} (g : Int → Option (El (n + 2))) (x : El (n + 2)) : El (n + 2) := (x.1, x.2.1, valG g x.1, itsG g x.1)
def ansB {n : Nat} (g : Int → Option (El (n + 2))) (q : List (El (n + 2))) : By := wrS false 0 (n + 2) (q.map (ansE g))
set_option maxRecDepth 20000 in
set_option maxHeartbeats 2000000 in
theorem danswer_any (F G : Nat → Prop) (w : World) (c m : Nat) (g : Int → Option (El 3)) (v : Value) (q : List (El 3)) (h1 : DMk w G 2 c m g) (h2 : Rd w F 3 v q) (hq : GoodQ q) (hok : errS 3 0 (q.map (ansE g)) = 0) (hG : ∀ j, G j → j < w.heap.size) :
    Calls Tryz.prog 116 #[.map (some c), v] w fun e w' => e = .returned (.string (bs (ansB g q))) ∧ Below w.heap.size w w' := by
  obtain ⟨ad, cap, rfl⟩ := h2.slice
  obtain ⟨i0, hi0, hz0, hz1, hz2⟩ := info_parts info_element
  have HI := hid hi0
  have H1 := hid h1
  have H2 := hid h2
  have HQ := hid hq
  have HO := hid hok
  have HG := hid hG
  have hl := hq.1
  clear h1 h2 hq hok hG hi0
  go_enter Tryz.func116, Tryz.ntmps116
  go_wp2_with fail
  go_loopw [5, 13] (fun o i wr => ∃ (k : Nat) (xs : List Value), k ≤ q.length ∧ i = .int .i64 k ∧ Hid (wr.ownsRow w.heap.size 73 4 o k xs) ∧ Hid (Ls 4 (CpE w G 2) xs ((q.take k).map (ansE g)) []) ∧ Hid (Below w.heap.size w wr)) (fun _ i _ => q.length - (intOf i).toNat)
  case atStart => exact ⟨0, [], Nat.zero_le _, rfl, World.ownsRow_nil _ _ _ _, ⟨rfl, rfl⟩, Below.refl _ _⟩
  case round =>
    obtain ⟨k, xs, hk, rfl, hown, hls, hU⟩ := hrel
    by_cases hkl : k < q.length
    · have hat := hid ((H2.out.up hU.out).at (List.getElem?_eq_getElem hkl))
      obtain ⟨a3, ad3, cap3, rfl, _, d0, d1, d2, d3, _⟩ := hat.out
      have hx := hid (HQ.out.2 _ (List.getElem_mem hkl))
      have hst := hid (show (q.take (k + 1)).map (ansE g) = (q.take k).map (ansE g) ++ [ansE g q[k]] by rw [List.take_succ_eq_append_getElem hkl, List.map_append]; rfl)
      clear hat
      generalize q[k] = x at d0 d1 d2 d3 hx hst
      obtain ⟨wA, rfl⟩ : ∃ wA, wA = wr := ⟨_, rfl⟩
      have u2 := Below.alloc (Below.refl wA.heap.size wA) (Nat.le_refl _) (.cells #[.int .i64 x.1, .string (bs x.2.1), .string (bs x.2.2.1), .slice ad3 x.2.2.2.length cap3] 73)
      have hX := (Four.new wA (.int .i64 x.1) (.string (bs x.2.1)) (.string (bs x.2.2.1)) (.slice ad3 x.2.2.2.length cap3)).cells
      obtain ⟨⟨x0, x1, x2, x3⟩, _⟩ := hX
      have U2 := hid (hU.out.trans (u2.mono hU.out.size))
      obtain ⟨t2, kd2, ad2, m2, c2, hlk, hit⟩ := (H1.out.up U2.out).look (t := x.1) (by have := hx.out.1; omega)
      have HIT := hid (hit.keep (w' := w) (fun _ h => h) (fun j hj _ => (U2.out.block j (HG.out j hj)).symm))
      have hA := hid (show ansE g x = (x.1, x.2.1, valG g x.1, itsG g x.1) from rfl)
      clear u2 hit
      generalize valG g x.1 = vl at *
      generalize itsG g x.1 = its at *
      have U3 := hid (Below.alloc U2.out U2.out.size (.cells #[.int .i64 t2, .string (bs kd2), .string (bs vl), .slice ad2 m2 c2] 73))
      have O3 := hid ((hown.out.alloc (.cells #[.int .i64 x.1, .string (bs x.2.1), .string (bs x.2.2.1), .slice ad3 x.2.2.2.length cap3] 73)).alloc (.cells #[.int .i64 t2, .string (bs kd2), .string (bs vl), .slice ad2 m2 c2] 73))
      go_wp2_with (at_builtin; refine wpList_append_own _ rfl _ _ 59 rfl w.heap.size 73 i0 zeroE 4 64 Tryz.underlying59 HI.out hz0 hz1 hz2 rfl (by decide) _ _ _ rfl (O3.out.alloc _) ⟨wA.heap.size + 1 + 1, 0, none⟩ 1 1 [.int .i64 x.1, .string (bs x.2.1), .string (bs vl), .slice ad2 m2 c2] rfl rfl (four_at _ _ _ _ _ _ _ (by simp)) four_one (by unfold maxLen; omega) (by omega) (by have := U3.out.size; simp only [World.size_alloc] at this ⊢; omega) ?_)
      intro v' w3 hown' hg hne
      have U4 := hid (up_grow U3.out O3.out _ hg)
      have O4 := hid hown'
      clear hown' hg
      go_wp2
      go_roundw
      case rel =>
        refine ⟨k + 1, xs ++ [.int .i64 x.1, .string (bs x.2.1), .string (bs vl), .slice ad2 m2 c2], by omega, by go_num, O4, ?_, U4⟩
        unfold Hid
        rw [hst.out]
        exact Ls.snoc (k := 4) (R := CpE w G 2) (c := [.int .i64 x.1, .string (bs x.2.1), .string (bs vl), .slice ad2 m2 c2]) (b := []) rfl (by rw [hA.out]; exact ⟨rfl, _, rfl, HIT.out⟩) hls.out
      case measure => simp [intOf]; omega
    · have hall : q.take k = q := List.take_of_length_le (by omega)
      have O := hid hown.out
      have L := hid hls.out
      rw [hall] at L
      obtain rfl : k = q.length := by omega
      obtain ⟨ad5, cap5, rfl⟩ := row_sl O.out
      have hb := hid (wrS_bound false 0 3 0 _ HO.out)
      have hRD := hid (rd_cp (F' := fun j => j < wr.heap.size) (n := 2) (l := q.map (ansE g)) ⟨xs, [], by rw [List.length_map]; exact ownsRow_low O.out, L.out, rfl⟩ hU.out (fun j hj => Nat.lt_of_lt_of_le (HG.out j hj) hU.out.size) (fun j hj => ownsRow_lt O.out j (by simpa using hj)))
      clear hown hls hall O L
      go_wp2_with fail
      go_at_call 37
      refine (Encode_any 3 (by decide) _ _ _ (q.map (ansE g)) (fun _ h => h) hRD.out (fun _ => Nat.le_trans hb.out (by decide))).mono ?_
      rintro e w5 ⟨u5, ⟨hbad, _⟩ | ⟨_, rfl⟩⟩
      · exact absurd HO.out hbad
      have U5 := hid (hU.out.trans (u5.mono hU.out.size))
      have hAB := hid (show wrS false 0 3 (q.map (ansE g)) = ansB g q from rfl)
      rw [hAB.out]
      clear u5 hRD hb
      generalize hG : ansB g q = bb
      have HGG := hid hG
      clear hG
      go_wp2
      go_ret
      rw [HGG.out]
      exact ⟨rfl, U5.out⟩
end Go.Proofs.YtaokifbpakbgdaaGreatDoor

/- What slices.Sorted(maps.Keys(m)) answers at a map with strings for keys, at this program's numbers (laid by the kit's own tool). -/
namespace Go.Proofs
open Go.RowKit Go.Maps Go.Sort Go.Shelf
def Tryz.keys115_ren : Go.Shelf.Ren := ⟨fun | 7 => 115 | 10 => 188 | n => n, fun | 23 => 143 | 26 => 9 | 3 => 127 | 28 => 149 | 0 => 0 | 27 => 148 | 33 => 89 | 4 => 4 | n => n, fun | n => n⟩
theorem Tryz.keys115 : Go.Proofs.SlLaysZ.n7 Tryz.prog Tryz.keys115_ren := {
  mixed := by kernel_rfl
  f7 := ⟨Tryz.f115.name, by decide, Tryz.func115.trans (congrArg some (by kernel_rfl))⟩
  f10 := ⟨Tryz.f188.name, by decide, Tryz.func188.trans (congrArg some (by kernel_rfl))⟩
  t0 := Tryz.underlying0
  a0 := Tryz.isAgg0
  z0 := Tryz.sizeOf0
  v0 := Tryz.zeroValue0
  t4 := Tryz.underlying4
  a4 := Tryz.isAgg4
  z4 := Tryz.sizeOf4
  v4 := Tryz.zeroValue4
  t23 := Tryz.underlying143
  a23 := Tryz.isAgg143
  z23 := Tryz.sizeOf143
  v23 := Tryz.zeroValue143
  t26 := Tryz.underlying9
  a26 := Tryz.isAgg9
  z26 := Tryz.sizeOf9
  v26 := Tryz.zeroValue9
  t27 := Tryz.underlying148
  a27 := Tryz.isAgg148
  z27 := Tryz.sizeOf148
  v27 := Tryz.zeroValue148
  t28 := Tryz.underlying149
  a28 := Tryz.isAgg149
  z28 := Tryz.sizeOf149
  v28 := Tryz.zeroValue149
  t33 := Tryz.underlying89
  a33 := Tryz.isAgg89
  z33 := Tryz.sizeOf89
  v33 := Tryz.zeroValue89 }
def Tryz.sorted114_ren : Go.Shelf.Ren := ⟨fun | 6 => 114 | 8 => 186 | 9 => 187 | 11 => 238 | 13 => 240 | 12 => 239 | 23 => 290 | 24 => 291 | 14 => 281 | 15 => 282 | 16 => 283 | 17 => 284 | 18 => 285 | 19 => 286 | 20 => 287 | 21 => 288 | 22 => 289 | 25 => 312 | 26 => 313 | 27 => 314 | 28 => 315 | 29 => 316 | 30 => 317 | 31 => 325 | n => n, fun | 26 => 9 | 28 => 149 | 24 => 70 | 0 => 0 | 3 => 3 | 37 => 221 | 48 => 293 | 50 => 270 | 4 => 4 | 40 => 287 | 39 => 286 | 45 => 117 | 5 => 5 | 9 => 9 | 51 => 314 | 55 => 318 | 57 => 332 | 58 => 333 | 33 => 89 | n => n, fun | n => n⟩
theorem Tryz.sorted114 : Go.Proofs.SlLaysZ.n6 Tryz.prog Tryz.sorted114_ren := {
  mixed := by kernel_rfl
  f6 := ⟨Tryz.f114.name, by decide, Tryz.func114.trans (congrArg some (by kernel_rfl))⟩
  f8 := ⟨Tryz.f186.name, by decide, Tryz.func186.trans (congrArg some (by kernel_rfl))⟩
  f11 := ⟨Tryz.f238.name, by decide, Tryz.func238.trans (congrArg some (by kernel_rfl))⟩
  t0 := Tryz.underlying0
  a0 := Tryz.isAgg0
  z0 := Tryz.sizeOf0
  v0 := Tryz.zeroValue0
  t24 := Tryz.underlying70
  a24 := Tryz.isAgg70
  z24 := Tryz.sizeOf70
  v24 := Tryz.zeroValue70
  t26 := Tryz.underlying9
  a26 := Tryz.isAgg9
  z26 := Tryz.sizeOf9
  v26 := Tryz.zeroValue9
  t28 := Tryz.underlying149
  a28 := Tryz.isAgg149
  z28 := Tryz.sizeOf149
  v28 := Tryz.zeroValue149
  i26 := by kernel_rfl }
def Tryz.sort187_ren : Go.Shelf.Ren := ⟨fun | 6 => 187 | 8 => 240 | 9 => 239 | 19 => 290 | 20 => 291 | 21 => 281 | 22 => 282 | 23 => 283 | 24 => 284 | 25 => 285 | 26 => 286 | 27 => 287 | 28 => 288 | 29 => 289 | 36 => 312 | 31 => 313 | 32 => 314 | 37 => 315 | 38 => 316 | 39 => 317 | 41 => 325 | n => n, fun | 27 => 70 | 29 => 9 | 3 => 3 | 32 => 221 | 26 => 70 | 0 => 0 | 44 => 293 | 46 => 270 | 4 => 4 | 36 => 287 | 35 => 286 | 41 => 117 | 5 => 5 | 9 => 9 | 53 => 314 | 57 => 318 | 63 => 332 | 64 => 333 | n => n, fun | n => n⟩
theorem Tryz.sort187 : Go.Proofs.SlLaysM.n6 Tryz.prog Tryz.sort187_ren := {
  mixed := by kernel_rfl
  f6 := ⟨Tryz.f187.name, by decide, Tryz.func187.trans (congrArg some (by kernel_rfl))⟩
  f8 := Tryz.func240.trans (congrArg some (by kernel_rfl))
  f9 := ⟨Tryz.f239.name, by decide, Tryz.func239.trans (congrArg some (by kernel_rfl))⟩
  f19 := Tryz.func290.trans (congrArg some (by kernel_rfl))
  f20 := Tryz.func291.trans (congrArg some (by kernel_rfl))
  f21 := ⟨Tryz.f281.name, by decide, Tryz.func281.trans (congrArg some (by kernel_rfl))⟩
  f22 := ⟨Tryz.f282.name, by decide, Tryz.func282.trans (congrArg some (by kernel_rfl))⟩
  f23 := ⟨Tryz.f283.name, by decide, Tryz.func283.trans (congrArg some (by kernel_rfl))⟩
  f24 := ⟨Tryz.f284.name, by decide, Tryz.func284.trans (congrArg some (by kernel_rfl))⟩
  f25 := ⟨Tryz.f285.name, by decide, Tryz.func285.trans (congrArg some (by kernel_rfl))⟩
  f26 := ⟨Tryz.f286.name, by decide, Tryz.func286.trans (congrArg some (by kernel_rfl))⟩
  f27 := ⟨Tryz.f287.name, by decide, Tryz.func287.trans (congrArg some (by kernel_rfl))⟩
  f28 := ⟨Tryz.f288.name, by decide, Tryz.func288.trans (congrArg some (by kernel_rfl))⟩
  f29 := ⟨Tryz.f289.name, by decide, Tryz.func289.trans (congrArg some (by kernel_rfl))⟩
  f31 := Tryz.func313.trans (congrArg some (by kernel_rfl))
  f32 := Tryz.func314.trans (congrArg some (by kernel_rfl))
  f36 := ⟨Tryz.f312.name, by decide, Tryz.func312.trans (congrArg some (by kernel_rfl))⟩
  f37 := ⟨Tryz.f315.name, by decide, Tryz.func315.trans (congrArg some (by kernel_rfl))⟩
  f38 := ⟨Tryz.f316.name, by decide, Tryz.func316.trans (congrArg some (by kernel_rfl))⟩
  f39 := ⟨Tryz.f317.name, by decide, Tryz.func317.trans (congrArg some (by kernel_rfl))⟩
  f41 := ⟨Tryz.f325.name, by decide, Tryz.func325.trans (congrArg some (by kernel_rfl))⟩
  t0 := Tryz.underlying0
  a0 := Tryz.isAgg0
  z0 := Tryz.sizeOf0
  v0 := Tryz.zeroValue0
  t3 := Tryz.underlying3
  a3 := Tryz.isAgg3
  z3 := Tryz.sizeOf3
  v3 := Tryz.zeroValue3
  t4 := Tryz.underlying4
  a4 := Tryz.isAgg4
  z4 := Tryz.sizeOf4
  v4 := Tryz.zeroValue4
  t5 := Tryz.underlying5
  a5 := Tryz.isAgg5
  z5 := Tryz.sizeOf5
  v5 := Tryz.zeroValue5
  t9 := Tryz.underlying9
  a9 := Tryz.isAgg9
  z9 := Tryz.sizeOf9
  v9 := Tryz.zeroValue9
  t26 := Tryz.underlying70
  a26 := Tryz.isAgg70
  z26 := Tryz.sizeOf70
  v26 := Tryz.zeroValue70
  t27 := Tryz.underlying70
  a27 := Tryz.isAgg70
  z27 := Tryz.sizeOf70
  v27 := Tryz.zeroValue70
  t29 := Tryz.underlying9
  a29 := Tryz.isAgg9
  z29 := Tryz.sizeOf9
  v29 := Tryz.zeroValue9
  t32 := Tryz.underlying221
  a32 := Tryz.isAgg221
  z32 := Tryz.sizeOf221
  v32 := Tryz.zeroValue221
  t35 := Tryz.underlying286
  a35 := Tryz.isAgg286
  z35 := Tryz.sizeOf286
  v35 := Tryz.zeroValue286
  t36 := Tryz.underlying287
  a36 := Tryz.isAgg287
  z36 := Tryz.sizeOf287
  v36 := Tryz.zeroValue287
  t41 := Tryz.underlying117
  a41 := Tryz.isAgg117
  z41 := Tryz.sizeOf117
  v41 := Tryz.zeroValue117
  t44 := Tryz.underlying293
  a44 := Tryz.isAgg293
  z44 := Tryz.sizeOf293
  v44 := Tryz.zeroValue293
  t46 := Tryz.underlying270
  a46 := Tryz.isAgg270
  z46 := Tryz.sizeOf270
  v46 := Tryz.zeroValue270
  t53 := Tryz.underlying314
  a53 := Tryz.isAgg314
  z53 := Tryz.sizeOf314
  v53 := Tryz.zeroValue314
  t57 := Tryz.underlying318
  a57 := Tryz.isAgg318
  z57 := Tryz.sizeOf318
  v57 := Tryz.zeroValue318
  t63 := Tryz.underlying332
  a63 := Tryz.isAgg332
  z63 := Tryz.sizeOf332
  v63 := Tryz.zeroValue332
  t64 := Tryz.underlying333
  a64 := Tryz.isAgg333
  z64 := Tryz.sizeOf333
  v64 := Tryz.zeroValue333 }
theorem Tryz.sorts114 (m : Nat) : AnyZ.SortsIn Tryz.prog Tryz.sorted114_ren Fence.wide m :=
  ⟨fun blk off cap ss W hH hblk hsz => callsIn_wide.2 (AnyM.slices_Sort_string Tryz.sort187 blk off cap ss W hH hblk hsz),
   fun p cap W => callsIn_wide.2 (AnyM.slices_Sort_string_none Tryz.sort187 p cap W)⟩

theorem Tryz.maps_Keys_115 (mb : Option Nat) (W : World) : CallsIn Fence.wide 5 Tryz.prog 115 #[.map mb] W fun e w' => e = .returned (.func (.func 188) #[] #[.pointer (some ⟨W.heap.size, 0, none⟩)]) ∧ w' = W.alloc (.cells #[.map mb] 143) :=
  AnyZ.keys_in Tryz.keys115 Fence.wide 5 trivial rfl mb W

set_option maxHeartbeats 1000000 in
theorem Tryz.slices_Sorted_keys_114_115 {H : Type} (b nn : Nat) (D0 : DataW H) (R : Value → Option (DataW H × List MemPlace)) (w : World) (hown : w.ownsMap Tryz.prog 9 R b nn D0) (hmax : Maps.size D0 ≤ maxLen) (hbytes : Maps.size D0 * 16 ≤ 140737488355328) :
    CallsIn Fence.wide 5 Tryz.prog 114 #[.func (.func 188) #[] #[.pointer (some ⟨w.heap.size, 0, none⟩)]] (w.alloc (.cells #[.map (some b)] 143)) fun e w' => ∃ (v : Value) (ss : List (List UInt8)), e = .returned v ∧ ss.Perm (strKeys D0) ∧
      w'.ownsRow (w.alloc (.cells #[.map (some b)] 143)).heap.size 9 1 v ss.length ((ss.mergeSort (fun x y => decide (x ≤ y))).map encStr) ∧ (v = .slice none 0 0 ↔ ss = []) ∧ Below (w.alloc (.cells #[.map (some b)] 143)).heap.size (w.alloc (.cells #[.map (some b)] 143)) w' := by
  have hbl := hown.lt
  have hseq : SeqGives Fence.wide 2 Tryz.prog 188 #[.pointer (some ⟨w.heap.size, 0, none⟩)] encStr (fun ss => ss.Perm (strKeys D0)) (Maps.size D0) (w.alloc (.cells #[.map (some b)] 143)) :=
    AnyZ.keys_gives (ρ := Tryz.keys115_ren) { Tryz.keys115 with } Fence.wide _ trivial rfl (by omega) w.heap.size b nn D0 _ (by simp) (by simp) (by
      obtain ⟨es, clock, hb, Ft, hs, hD⟩ := hown
      exact ⟨es, clock, (Below.heap_alloc _ _ b hbl).trans hb, Ft, hs, hD⟩)
  exact AnyZ.sorted_in Tryz.sorted114 Fence.wide 5 trivial trivial trivial trivial rfl (by omega) (Tryz.sorts114 _) (enters_of Tryz.func187 (by kernel_rfl) rfl) 188 #[.pointer (some ⟨w.heap.size, 0, none⟩)] trivial (enters_of Tryz.func188 (by kernel_rfl) rfl) _ _ hmax hbytes _ hseq
end Go.Proofs

/- Package archive: the names that were found, in order (slices.Sorted over maps.Keys); which description is the last one of a thing. -/
namespace Go.Proofs.YtaokifbpakbgdaaGreatDoor
open Go.RowKit Go.Maps Go.Shelf Go.Sort

/-- The description of a thing that was laid in last. -/
def lastA {n : Nat} (A : List (List (El (n + 1)))) (lvl : Nat) (s : By) : List (El (n + 1)) := ((A.filter (fun o => nm lvl o == s)).getLast?).getD []
theorem lastA_of {n : Nat} {A : List (List (El (n + 2)))} {pd : List (El (n + 2)) → Nat × Int} {xs : List (Of A)} (hp : (xs.map (·.1)).Perm A) (hm : A.Pairwise (fun l l' => (pd l).2 < (pd l').2)) {lvl : Nat} {s : By} {y : Of A} (h : IsLast pd (grp lvl s xs) y) : lastA A lvl s = y.1 := by
  have hP := grp_perm hp lvl s
  have hy : y.1 ∈ A.filter (fun o => nm lvl o == s) := hP.subset (List.mem_map.2 ⟨y, h.1, rfl⟩)
  have hF := hm.filter (fun o => nm lvl o == s)
  unfold lastA
  generalize A.filter (fun o => nm lvl o == s) = L at hP hy hF
  have hne : L ≠ [] := fun e => by rw [e] at hy; simp at hy
  rw [List.getLast?_eq_some_getLast hne]
  show L.getLast hne = y.1
  have hz : L.getLast hne ∈ L := List.getLast_mem hne
  obtain ⟨x, hx, ex⟩ := List.mem_map.1 (hP.symm.subset hz)
  have hle := h.2 x hx
  have hd := List.dropLast_concat_getLast hne
  by_cases e : y.1 ∈ L.dropLast
  · rw [← hd] at hF
    have := (List.pairwise_append.1 hF).2.2 y.1 e (L.getLast hne) (List.mem_singleton.2 rfl)
    have ex' : (pd x.1).2 = (pd (L.getLast hne)).2 := by rw [← ex]
    omega
  · rw [← hd] at hy
    rcases List.mem_append.1 hy with hy | hy
    · exact absurd hy e
    · exact (List.mem_singleton.1 hy).symm
theorem Pics.pdA {w : World} {F : Nat → Prop} {n : Nat} {f : Lit → Option Value} : ∀ {A : List (List (El (n + 2)))} {ps : List (Nat × Int)}, Pics w F n f A ps → A.Nodup → ∃ pd : List (El (n + 2)) → Nat × Int, A.map pd = ps ∧ ∀ l ∈ A, F (pd l).1 ∧ f (keyS (nm 3 l)) = some (picV (pd l).1 (pd l).2) ∧ DMk w F (n + 1) (pd l).1 24 (descG l)
  | [], [], _, _ => ⟨fun _ => (0, 0), rfl, fun l hl => by simp at hl⟩
  | l :: A, p :: ps, h, hn => by
    classical
    obtain ⟨h1, h2, h3, h4⟩ := h
    obtain ⟨hl, hn2⟩ := List.nodup_cons.1 hn
    obtain ⟨pd, e1, e2⟩ := Pics.pdA h4 hn2
    refine ⟨fun o => if o = l then p else pd o, ?_, fun o ho => ?_⟩
    · rw [List.map_cons, if_pos rfl, ← e1]
      congr 1
      exact List.map_congr_left (fun o ho => if_neg (fun (e : o = l) => hl (by rw [← e]; exact ho)))
    · by_cases e : o = l
      · subst e; simp only [if_pos]; exact ⟨h2, h1, h3⟩
      · simp only [if_neg e]
        rcases List.mem_cons.1 ho with ho | ho
        · exact absurd ho e
        · exact e2 o ho
theorem ProA.arcD {w : World} {F : Nat → Prop} {n a m : Nat} {T : Int} {A : List (List (El (n + 2)))} (h : ProA w F n a m T A) (hG : Good A) : ∃ f pd, ArcD w F a m T A f pd ∧ (∀ k, (f k).isSome = true ↔ ∃ l ∈ A, k = keyS (nm 3 l)) ∧ A.Pairwise (fun l l' => (pd l).2 < (pd l').2) := by
  obtain ⟨h1, f, ps, h2, h3, h4, _, h6⟩ := h
  have hA : A.Nodup := by
    have := hG.2.1
    rw [List.Nodup, List.pairwise_map] at this
    exact this.imp (fun h e => h (by rw [e]))
  obtain ⟨pd, e1, e2⟩ := h3.pdA hA
  refine ⟨f, pd, ⟨h1, h2, fun l hl => (e2 l hl).2⟩, h6, ?_⟩
  rw [← e1, List.map_map, List.pairwise_map] at h4
  exact h4
theorem mapsKeys_any (w : World) (mb : Option Nat) : Calls Tryz.prog 115 #[.map mb] w fun e w' => e = .returned (.func (.func 188) #[] #[.pointer (some ⟨w.heap.size, 0, none⟩)]) ∧ w' = w.alloc (.cells #[.map mb] 143) := callsIn_wide.1 (Tryz.maps_Keys_115 mb w)
theorem sortedKeys_any (w : World) (b n : Nat) (f : Lit → Option Value) (S : List By) (h : MapF w Tryz.prog 9 b n f) (hn : S.length ≤ 100) (hS : S.Nodup) (hm : ∀ x, x ∈ S ↔ (f (keyS x)).isSome = true) (hk : ∀ k, (f k).isSome = true → ∃ s, k = keyS s) :
    Calls Tryz.prog 114 #[.func (.func 188) #[] #[.pointer (some ⟨w.heap.size, 0, none⟩)]] (w.alloc (.cells #[.map (some b)] 143)) fun e w' => ∃ v, e = .returned v ∧ w'.ownsRow (w.heap.size + 1) 9 1 v S.length ((S.mergeSort Go.leB).map (fun s => .string (bs s))) ∧ Below (w.heap.size + 1) (w.alloc (.cells #[.map (some b)] 143)) w' := by
  obtain ⟨D, h1, h2⟩ := h
  have hsz : Maps.size D = S.length := by
    have := size_keys h1 (Maps.string_keyed Tryz.underlying9) (keyS_nodup hS) (fun kl => by
      rw [h2, List.mem_map]
      constructor
      · rintro ⟨s, hs, rfl⟩; exact (hm s).1 hs
      · intro h
        obtain ⟨s, rfl⟩ := hk kl h
        exact ⟨s, (hm s).2 h, rfl⟩)
    rw [this, List.length_map]
  have hP : S.Perm (strKeys D) := Collected.perm (left := fun _ => false) ⟨hS, fun x => by rw [hm x, ← h2, has_view h1 (Maps.string_keyed Tryz.underlying9)]; simp [keyS]⟩ h1 (Maps.string_keyed Tryz.underlying9) Tryz.underlying9 (fun _ => rfl)
  refine (callsIn_wide.1 (Tryz.slices_Sorted_keys_114_115 b n D heldR w h1 (by unfold maxLen; omega) (by omega))).mono ?_
  rintro e w' ⟨v, ss, rfl, hp, hr, _, hB⟩
  rw [World.size_alloc] at hr hB
  refine ⟨v, rfl, ?_, hB⟩
  rw [show (ss.mergeSort (fun x y => decide (x ≤ y))) = S.mergeSort Go.leB from mergeSort_of_perm (hp.trans hP.symm), (hp.trans hP.symm).length_eq] at hr
  exact hr
end Go.Proofs.YtaokifbpakbgdaaGreatDoor

/- Package archive: answers, its first loop: what is found. -/
namespace Go.Proofs.YtaokifbpakbgdaaGreatDoor
open Go.RowKit Go.Maps Go.Shelf Go.Sort

/-- What is told of the thing of a name; does it fit keys? -/
def gS {n : Nat} (A : List (List (El (n + 2)))) (lvl : Nat) (s : By) : Int → Option (El (n + 2)) := tellN A lvl (lastA A lvl s) 3
def fitN {n : Nat} (A : List (List (El (n + 2)))) (lvl : Nat) (q : List (El (n + 2))) (s : By) : Bool := fitD (gS A lvl s) q
/-- What was found so far; 'av': blocks in which no description lies. -/
def FoundI {n : Nat} (w : World) (F av : Nat → Prop) (fb : Nat) (A : List (List (El (n + 2)))) (lvl : Nat) (q : List (El (n + 2))) (done : By → Prop) (cnt : Nat) : Prop :=
  ∃ (ff : Lit → Option Value) (cs : By → Nat), MapF w Tryz.prog 9 fb cnt ff ∧ (∀ s, done s → fitN A lvl q s = true → ff (keyS s) = some (.map (some (cs s))) ∧ ¬ av (cs s) ∧ DMk w F (n + 1) (cs s) 28 (gS A lvl s)) ∧ (∀ s, ¬ (done s ∧ fitN A lvl q s = true) → ff (keyS s) = none) ∧ ∀ k, (ff k).isSome = true → ∃ s, k = keyS s
theorem FoundI.keep {n : Nat} {w w' : World} {F av : Nat → Prop} {fb : Nat} {A : List (List (El (n + 2)))} {lvl : Nat} {q : List (El (n + 2))} {done : By → Prop} {cnt : Nat} (h : FoundI w F av fb A lvl q done cnt) (hb : w'.heap[fb]? = w.heap[fb]?) (hF : ∀ j, F j → ¬ av j) (hk : ∀ j, ¬ av j → j < w.heap.size → w'.heap[j]? = w.heap[j]?) : FoundI w' F av fb A lvl q done cnt := by
  obtain ⟨ff, cs, h1, h2, h3, h4⟩ := h
  exact ⟨ff, cs, h1.kept hb, fun s hs hf => ⟨(h2 s hs hf).1, (h2 s hs hf).2.1, (h2 s hs hf).2.2.keep (hk _ (h2 s hs hf).2.1 (h2 s hs hf).2.2.lt) (fun _ h => h) (fun j hj hl => hk j (hF j hj) hl)⟩, h3, h4⟩
theorem FoundI.lt {n : Nat} {w : World} {F av : Nat → Prop} {fb : Nat} {A : List (List (El (n + 2)))} {lvl : Nat} {q : List (El (n + 2))} {done : By → Prop} {cnt : Nat} (h : FoundI w F av fb A lvl q done cnt) : fb < w.heap.size := by
  obtain ⟨ff, cs, h1, _⟩ := h
  exact h1.lt
theorem FoundI.up {n : Nat} {w w' : World} {F av : Nat → Prop} {fb : Nat} {A : List (List (El (n + 2)))} {lvl : Nat} {q : List (El (n + 2))} {done : By → Prop} {cnt : Nat} (h : FoundI w F av fb A lvl q done cnt) (hF : ∀ j, F j → ¬ av j) (k : Below w.heap.size w w') : FoundI w' F av fb A lvl q done cnt := h.keep (k.block _ h.lt) hF (fun j _ hj => k.block j hj)
theorem FoundI.cast {n : Nat} {w : World} {F av : Nat → Prop} {fb : Nat} {A : List (List (El (n + 2)))} {lvl : Nat} {q : List (El (n + 2))} {done done' : By → Prop} {cnt cnt' : Nat} (h : FoundI w F av fb A lvl q done cnt) (hd : ∀ s, fitN A lvl q s = true → (done s ↔ done' s)) (hc : cnt ≤ cnt') : FoundI w F av fb A lvl q done' cnt' := by
  obtain ⟨ff, cs, h1, h2, h3, h4⟩ := h
  exact ⟨ff, cs, h1.mono hc, fun s hs hf => h2 s ((hd s hf).2 hs) hf, fun s hs => h3 s (fun ⟨a, b⟩ => hs ⟨(hd s b).1 a, b⟩), h4⟩
theorem FoundI.put {n : Nat} {w w' : World} {F av : Nat → Prop} {fb c cnt : Nat} {A : List (List (El (n + 2)))} {lvl : Nat} {q : List (El (n + 2))} {done : By → Prop} {ff : Lit → Option Value} {cs : By → Nat} {s : By}
    (h2 : ∀ s, done s → fitN A lvl q s = true → ff (keyS s) = some (.map (some (cs s))) ∧ ¬ av (cs s) ∧ DMk w F (n + 1) (cs s) 28 (gS A lvl s)) (h3 : ∀ s, ¬ (done s ∧ fitN A lvl q s = true) → ff (keyS s) = none) (h4 : ∀ k, (ff k).isSome = true → ∃ s, k = keyS s)
    (hM : MapF w' Tryz.prog 9 fb cnt (upd ff (keyS s) (some (.map (some c))))) (hg : w.grownBy w' (some fb)) (hF : ∀ j, F j → ¬ av j) (hav : av fb) (hc : ¬ av c) (hD : DMk w F (n + 1) c 28 (gS A lvl s)) (hfit : fitN A lvl q s = true) : FoundI w' F av fb A lvl q (fun t => done t ∨ t = s) cnt := by
  classical
  have hx : ∀ b : Nat, ¬ av b → some b ≠ some fb := fun b hb e => by
    injection e with e
    rw [e] at hb
    exact hb hav
  have hk : ∀ (b : Nat) (g : Int → Option (El (n + 2))), ¬ av b → DMk w F (n + 1) b 28 g → DMk w' F (n + 1) b 28 g := fun b g hb h => h.keep (hg.block b h.lt (hx b hb)) (fun _ h => h) (fun j hj hl => hg.block j hl (hx j (hF j hj)))
  have hK : ∀ t : By, (keyS t).sameKey (keyS s) = true ↔ t = s := fun t => by
    rw [same_iff (show WideAt.IsKeyLit (keyS s) from trivial)]
    exact ⟨fun e => by injection e, fun e => by rw [e]⟩
  refine ⟨_, fun t => if t = s then c else cs t, hM, fun t ht hf => ?_, fun t ht => ?_, fun k hk => ?_⟩
  · by_cases e : t = s
    · subst e
      simp only [upd, if_pos ((hK t).2 rfl), if_pos]
      exact ⟨trivial, hc, hk _ _ hc hD⟩
    · simp only [upd, if_neg (fun h => e ((hK t).1 h)), if_neg e]
      have := h2 t (ht.resolve_right e) hf
      exact ⟨this.1, this.2.1, hk _ _ this.2.1 this.2.2⟩
  · by_cases e : t = s
    · exact absurd ⟨Or.inr e, e ▸ hfit⟩ ht
    · simp only [upd, if_neg (fun h => e ((hK t).1 h))]
      exact h3 t (fun h => ht ⟨Or.inl h.1, h.2⟩)
  · unfold upd at hk
    by_cases e : k.sameKey (keyS s) = true
    · exact ⟨s, WideAt.sameKey_eq e⟩
    · rw [if_neg e] at hk; exact h4 k hk
theorem ownsRow_ge {w : World} {base base' : Nat} {e : TypeId} {k : Nat} {v : Value} {n : Nat} {xs : List Value} (h : w.ownsRow base e k v n xs) (hb : base' ≤ base) : w.ownsRow base' e k v n xs := by
  obtain ⟨q1, q2⟩ := h
  rcases q2 with ⟨rfl, q2⟩ | ⟨g, cap, cur, rfl, q2, q3⟩
  · exact ⟨q1, Or.inl ⟨rfl, q2⟩⟩
  · exact ⟨q1, Or.inr ⟨g, cap, cur, rfl, Nat.le_trans hb q2, q3⟩⟩
theorem grownBy_but {w w' : World} {fb : Nat} (h : w.grownBy w' (some fb)) : KeepsBut fb 0 w w' := ⟨h.size, fun k o hk ho _ => by rw [h.block k (Array.getElem?_eq_some_iff.1 ho).1 (fun e => hk (by simpa using e)), ho], fun k hk => by omega⟩
theorem UpB.grown1 {b : Nat} {w a a' : World} (h : UpB b w a) (hg : a.grownBy a' (some b)) : UpB b w a' := h.grown hg (fun k e => by cases e; exact Or.inl rfl)
end Go.Proofs.YtaokifbpakbgdaaGreatDoor

/- Package folioref on archives: clean. -/
namespace Go.Proofs.YtaokifbpakbgdaaGreatDoor
open Go.RowKit

theorem cells1_set {W : World} {T : TypeId} {B : Nat} {c0 : Value} (h : W.heap[B]? = some (.cells #[c0] T (0, 0))) (u : Value) : (W.setCell ⟨B, 0, none⟩ u).heap[B]? = some (.cells #[u] T (0, 0)) := by
  have hlt := lt_of_block h
  have h' : W.heap[B] = .cells #[c0] T (0, 0) := by rw [Array.getElem?_eq_getElem hlt] at h; exact Option.some.inj h
  show (W.heap.modify B _)[B]? = _
  rw [Array.getElem?_eq_getElem (by simpa using hlt), Array.getElem_modify_self, h']
  rfl
set_option maxRecDepth 20000 in
set_option maxHeartbeats 4000000 in
theorem rclean_any (n : Nat) (F : Nat → Prop) (w : World) (v : Value) (its : Its (n + 1)) (h : RdI w F (n + 1) v its) (hF : ∀ j, F j → j < w.heap.size) (hl : its.length ≤ 8) (hs : ∀ s ∈ its, s.length ≤ 24) :
    Calls Tryz.prog 225 #[v] w fun e w' => ∃ v' bl, e = .returned v' ∧ Below w.heap.size w w' ∧ Row w' 182 1 (CpI w F n w') v' (its.map wordsL) bl ∧ New w w' bl := by
  obtain ⟨ad, cap, rfl⟩ := h.slice
  obtain ⟨i0, hi0, hz0, hz1, hz2⟩ := info_parts info_item
  obtain ⟨i1, hi1, hy0, hy1, hy2⟩ := info_parts info_element
  have HI := hid hi0
  have HI1 := hid hi1
  have H := hid h
  have HF := hid hF
  have HS := hid hs
  clear hi0 hi1 h hF hs
  go_enter Tryz.func225, Tryz.ntmps225
  go_wp2_with fail
  go_loopw [3, 4] (fun o i wr => ∃ (k : Nat) (xs : List Value) (cs : List Nat), k ≤ its.length ∧ i = .int .i64 k ∧ Hid (wr.ownsRow 0 182 1 o ((its.take k).map wordsL).length xs) ∧ Hid (Ls 1 (CpI w F n wr) xs ((its.take k).map wordsL) cs) ∧ Hid (New w wr (o.ownBlock.toList ++ cs)) ∧ Hid (Below w.heap.size w wr)) (fun _ i _ => its.length - (intOf i).toNat)
  case atStart => exact ⟨0, [], [], Nat.zero_le _, rfl, World.ownsRow_nil _ _ _ _, ⟨rfl, rfl⟩, New.nil _ _, Below.refl _ _⟩
  case round =>
    obtain ⟨k, xs, cs, hk, rfl, hown, hls, hnew, hU⟩ := hrel
    obtain ⟨wA, rfl⟩ : ∃ wA, wA = wr := ⟨_, rfl⟩
    by_cases hkl : k < its.length
    · obtain ⟨a, ad2, cap2, rfl, _, c0, hrd⟩ := (H.out.up hU.out).at (List.getElem?_eq_getElem hkl)
      have hsl := HS.out _ (List.getElem_mem hkl)
      have hst := hid (show (its.take (k + 1)).map wordsL = (its.take k).map wordsL ++ [wordsL its[k]] by rw [List.take_succ_eq_append_getElem hkl, List.map_append]; rfl)
      have hrd2 := hid hrd
      have hlen := hid (show ((its.take k).map wordsL).length ≤ 8 by rw [List.length_map, List.length_take]; omega)
      clear hrd
      generalize its[k] = s at c0 hrd2 hst hsl
      generalize (its.take k).map wordsL = done at hown hls hst hlen
      have hB0 := hid (heap_alloc_new wA (.cells #[.slice none 0 0] 182))
      have hW0 := hid (Below.alloc (Below.refl wA.heap.size wA) (Nat.le_refl _) (.cells #[.slice none 0 0] 182))
      have HC0 := hid c0
      clear c0
      go_wp2_with fail
      go_loopw [6] (fun i wq => ∃ (q : Nat) (v2 : Value) (ys : List Value), q ≤ s.length ∧ i = .int .i64 q ∧ Hid (wq.heap[wA.heap.size]? = some (.cells #[v2] 182 (0, 0))) ∧ Hid (wq.ownsRow (wA.heap.size + 1) 73 4 v2 (wordsL (s.take q)).length ys) ∧ Hid (Ls 4 (CpE w F n) ys (wordsL (s.take q)) []) ∧ Hid (Below wA.heap.size wA wq)) (fun i _ => s.length - (intOf i).toNat)
      case atStart => exact ⟨0, .slice none 0 0, [], Nat.zero_le _, rfl, hB0, World.ownsRow_nil _ _ _ _, ⟨rfl, rfl⟩, hW0⟩
      case round =>
        obtain ⟨q, v2, ys, hq, rfl, hBx, hO, hL, hV⟩ := hrel
        have d := (hV.out.cell (World.block_lt_of_cell? _ _ HC0.out)).trans HC0.out
        have hlX := lt_of_block hBx.out
        obtain ⟨ad5, cap5, rfl⟩ := row_sl hO.out
        have x0 : wr.cell? ⟨wA.heap.size, 0, none⟩ = some (.slice ad5 (wordsL (s.take q)).length cap5) := by simp [World.cell?, hBx.out]
        have xf : wr.frozen? ⟨wA.heap.size, 0, none⟩ = false := by simp [World.frozen?, hBx.out]
        by_cases hql : q < s.length
        · obtain ⟨a3, ad3, cap3, rfl, _, g0, g1, g2, g3, hri⟩ := (hrd2.out.up hV.out).at (List.getElem?_eq_getElem hql)
          have hst2 := hid (wordsL_take hql)
          have hl24 := hid (show (wordsL (s.take q)).length ≤ 24 from Nat.le_trans (List.length_filter_le _ _) (by rw [List.length_take]; omega))
          have HRI := hid (hri.keep (w' := w) (fun _ h => h) (fun j hj _ => ((hU.out.trans (hV.out.mono hU.out.size)).block j (HF.out j hj)).symm))
          clear hri
          generalize s[q] = y at g0 g1 g2 g3 hst2 HRI
          generalize wordsL (s.take q) = dn at hO hL hst2 hl24 x0 hBx
          have U1 := hid (Below.alloc hV.out hV.out.size (.cells #[.int .i64 y.1, .string (bs y.2.1), .string (bs y.2.2.1), .slice ad3 y.2.2.2.length cap3] 73))
          have O1 := hid (hO.out.alloc (.cells #[.int .i64 y.1, .string (bs y.2.1), .string (bs y.2.2.1), .slice ad3 y.2.2.2.length cap3] 73))
          have hB1 := hid ((Below.heap_alloc wr (.cells #[.int .i64 y.1, .string (bs y.2.1), .string (bs y.2.2.1), .slice ad3 y.2.2.2.length cap3] 73) _ hlX).trans hBx.out)
          obtain ⟨⟨e0, e1, e2, e3⟩, _⟩ := (Four.new wr (.int .i64 y.1) (.string (bs y.2.1)) (.string (bs y.2.2.1)) (.slice ad3 y.2.2.2.length cap3)).cells
          by_cases hw : isWord y.1 = true
          · have hst3 := hid (hst2.out.trans (if_pos hw))
            have hww : Hid (y.1 = 524544 ∨ y.1 = 524548) := by unfold Hid; unfold isWord at hw; simpa using hw
            have x1 : (wr.alloc (.cells #[.int .i64 y.1, .string (bs y.2.1), .string (bs y.2.2.1), .slice ad3 y.2.2.2.length cap3] 73)).cell? ⟨wA.heap.size, 0, none⟩ = some (.slice ad5 dn.length cap5) := by simp [World.cell?, hB1.out]
            have hc : (y.1 == 524544) = true ∨ ((y.1 == 524544) = false ∧ (y.1 == 524548) = true) := by
              rcases hww.out with e | e
              · exact Or.inl (by simpa using e)
              · exact Or.inr ⟨by rw [e]; decide, by simpa using e⟩
            have hrowB := hid (fun k (hk : (Value.slice ad5 dn.length cap5).ownBlock = some k) => (hO.out.lt k hk).1)
            clear hst2 hw hBx hO hV x0 xf hww
            rcases hc with hc | ⟨hc1, hc2⟩
            all_goals
              go_wp2_with (at_builtin; refine wpList_append_own _ rfl _ _ 59 rfl (wA.heap.size + 1) 73 i1 zeroE 4 64 Tryz.underlying59 HI1.out hy0 hy1 hy2 rfl (by decide) _ _ _ rfl (O1.out.alloc _) ⟨wr.heap.size + 1, 0, none⟩ 1 1 [.int .i64 y.1, .string (bs y.2.1), .string (bs y.2.2.1), .slice ad3 y.2.2.2.length cap3] rfl rfl (four_at _ _ _ _ _ _ _ (by simp)) four_one (by have := hl24.out; unfold maxLen; omega) (by have := hl24.out; omega) (by simp only [World.size_alloc]; omega) ?_)
              intro v' w3 hown' hg hne
              obtain ⟨ad6, cap6, rfl⟩ := row_sl hown'
              have U3 := hid (up_grow U1.out (ownsRow_ge O1.out (Nat.le_succ _)) _ hg)
              have B3 := hid ((hg.block wA.heap.size (by simp only [World.size_alloc]; omega) (fun e => by have := hrowB.out wA.heap.size e.symm; omega)).trans ((Below.heap_alloc _ _ _ (by simp only [World.size_alloc]; omega)).trans hB1.out))
              have x3 : w3.cell? ⟨wA.heap.size, 0, none⟩ = some (.slice ad5 dn.length cap5) := by simp [World.cell?, B3.out]
              have f3 : w3.frozen? ⟨wA.heap.size, 0, none⟩ = false := by simp [World.frozen?, B3.out]
              have B4 := hid (cells1_set B3.out (.slice ad6 (dn.length + 1) cap6))
              have O4 := hid (ownsRow_keep hown' (w' := w3.setCell ⟨wA.heap.size, 0, none⟩ (.slice ad6 (dn.length + 1) cap6)) (fun j hj => Below.heap_setCell w3 ⟨wA.heap.size, 0, none⟩ (.slice ad6 (dn.length + 1) cap6) j (by have := (hown'.lt j (by simpa using hj)).1; simp; omega)))
              have U4 := hid (U3.out.setCell (p := ⟨wA.heap.size, 0, none⟩) (Nat.le_refl _) (.slice ad6 (dn.length + 1) cap6))
              clear hown' hg B3 U3
              go_wp2
              go_roundw
              case rel =>
                refine ⟨q + 1, _, ys ++ [.int .i64 y.1, .string (bs y.2.1), .string (bs y.2.2.1), .slice ad3 y.2.2.2.length cap3], by omega, by go_num, B4, ?_, ?_, U4⟩
                · unfold Hid
                  rw [hst3.out, List.length_append]
                  exact O4.out
                · unfold Hid
                  rw [hst3.out]
                  exact Ls.snoc (k := 4) (R := CpE w F n) (c := [.int .i64 y.1, .string (bs y.2.1), .string (bs y.2.2.1), .slice ad3 y.2.2.2.length cap3]) (b := []) rfl ⟨rfl, _, rfl, HRI.out⟩ hL.out
              case measure => simp [intOf]; omega
          · have hst3 := hid (hst2.out.trans (if_neg hw))
            have hw2 : (y.1 == 524544) = false ∧ (y.1 == 524548) = false := by unfold isWord at hw; simpa using hw
            obtain ⟨hwa, hwb⟩ := hw2
            clear hst2 hw
            go_wp2
            go_roundw
            case rel => exact ⟨q + 1, _, ys, by omega, by go_num, hB1, by unfold Hid; rw [hst3.out]; exact O1.out, by unfold Hid; rw [hst3.out]; exact hL.out, U1⟩
            case measure => simp [intOf]; omega
        · have hall : wordsL (s.take q) = wordsL s := by rw [List.take_of_length_le (by omega)]
          rw [hall] at hO hL x0 hBx
          have hold : ∀ j ∈ (Value.ownBlock u3).toList ++ cs, wr.heap[j]? = wA.heap[j]? := fun j hj => hV.out.block j (hnew.out.2 j hj).2
          have hown2 := hid (ownsRow_keep hown.out (w' := wr) (fun j hj => hold j (List.mem_append_left _ hj)))
          have hls2 := hid (hls.out.mono (R' := CpI w F n wr) (fun c y b' hb' _ hr => hr.keep _ _ _ _ _ (fun j hj => hold j (List.mem_append_right _ (hb' j hj)))))
          have U2 := hid (hU.out.trans (hV.out.mono hU.out.size))
          have hx2 := hid (show CpI w F n wr [.slice ad5 (wordsL s).length cap5] (wordsL s) (Value.slice ad5 (wordsL s).length cap5).ownBlock.toList from ⟨_, rfl, ys, [], ownsRow_low hO.out, hL.out, by simp⟩)
          have hnew2 := hid (New.add hnew.out (own_new (w := wA) (ownsRow_ge hO.out (Nat.le_succ _))) hU.out.size hV.out.size)
          clear hold hown hls hnew hO hL hBx xf hall
          go_wp2_with (at_builtin; refine wpList_append_sep _ rfl _ _ 71 rfl 182 i0 _ 1 24 Tryz.underlying71 HI.out hz0 hz1 hz2 rfl (by decide) _ _ _ rfl (hown2.out.alloc _) ⟨wr.heap.size, 0, none⟩ 1 1 [.slice ad5 (wordsL s).length cap5] rfl rfl (one_at _ _ _) (by simp [Value.oneCell']) (by have := hlen.out; unfold maxLen; omega) (by have := hlen.out; omega) ?_)
          intro v' w3 hown' hg hv
          have R := hid (Row.push (R := CpI w F n) CpI.keep hls2.out rfl hx2.out U2.out.size hnew2.out hown' hg hv)
          have U4 := hid ((UpB.of_below (b := w.heap.size) (Below.alloc U2.out U2.out.size (.cells #[.slice ad5 (wordsL s).length cap5] 182))).grown hg (fun k hk => Or.inr ((hnew2.out.2 k (List.mem_append_left _ (List.mem_append_left _ (by rw [hk]; simp)))).1)) |>.below (Nat.le_refl _) (Nat.le_refl _))
          clear hown' hg hv
          go_wp2
          go_roundw
          case rel =>
            refine ⟨k + 1, xs ++ [.slice ad5 (wordsL s).length cap5], _, by omega, by go_num, ?_, ?_, R.out.2.2, U4⟩
            · unfold Hid
              rw [hst.out]
              exact R.out.2.1
            · unfold Hid
              rw [hst.out]
              exact R.out.1
          case measure => simp [intOf]; omega
    · have hall : (its.take k).map wordsL = its.map wordsL := by rw [List.take_of_length_le (by omega)]
      have O := hid hown.out
      have L := hid hls.out
      rw [hall] at O L
      clear hown hls hall
      go_wp2
      go_ret
      exact ⟨_, _, rfl, hU.out, ⟨xs, cs, O.out, L.out, rfl⟩, hnew.out⟩
end Go.Proofs.YtaokifbpakbgdaaGreatDoor
