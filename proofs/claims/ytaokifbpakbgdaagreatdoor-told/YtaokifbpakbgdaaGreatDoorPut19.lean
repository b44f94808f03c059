/-
  Several texts in one; what each one has stands at its head.
-/
import Derived.Test.YtaokifbpakbgdaaGreatDoorKpD
import Derived.Test.YtaokifbpakbgdaaGreatDoorPut18
import Derived.Test.YtaokifbpakbgdaaGreatDoorPut16
import Derived.Deep.RegionHeld3
import Derived.BigQuiet
import Derived.Test.YtaokifbpakbgdaaGreatDoorPut5
import Derived.Test.YtaokifbpakbgdaaGreatDoorPut11
import Derived.Test.YtaokifbpakbgdaaGreatDoorPut15
/- Package foliokeep: a picture is laid in, or taken out (book.take). -/
namespace Go.Proofs.YtaokifbpakbgdaaGreatDoor
open Go.RowKit
theorem two_grown {w w5 w6 : World} {v5 : Value} (hg : w.grownBy w5 none) (hm5 : Moved w (.slice none 0 0) v5) (hg6 : w5.grownBy w6 v5.ownBlock) : Below w.heap.size w w6 := by
  have v5n : ∀ j ∈ v5.ownBlock.toList, w.heap.size ≤ j := fun j hj => by
    rcases hm5 with e | e
    · rw [e] at hj; cases hj
    · exact e j hj
  exact ⟨hg6.os.trans hg.os, hg6.tape.trans hg.tape, hg6.output.trans hg.output, Nat.le_trans hg.size hg6.size, fun j hj => (hg6.block j (Nat.lt_of_lt_of_le hj hg.size) (fun e => by have := v5n j (by rw [← e]; simp); omega)).trans (hg.block j hj (by simp))⟩
theorem fct_at (w : World) (T : TypeId) (c0 c1 c2 c3 c4 : Value) (b : Nat) (hb : b = w.heap.size) : ∀ j u, [c0, c1, c2, c3, c4][j]? = some u → (w.alloc (.cells #[c0, c1, c2, c3, c4] T)).cell? ((⟨b, 0, none⟩ : Addr).add j) = some u := by
  subst hb
  intro j u hj
  have hcl : cls (w.alloc (.cells #[c0, c1, c2, c3, c4] T)) w.heap.size #[c0, c1, c2, c3, c4] T := heap_alloc_new _ _
  rw [Addr.add_lit, Nat.zero_add]
  exact hcl.at (by simpa using hj)
theorem fct_one {s0 s1 s2 s3 : ByteArray} {a : Option Addr} {n c : Nat} : ∀ u ∈ [Value.string s0, .string s1, .string s2, .string s3, .slice a n c], u.oneCell' = true := by
  intro u hu
  simp only [List.mem_cons, List.not_mem_nil, or_false] at hu
  rcases hu with rfl | rfl | rfl | rfl | rfl <;> rfl
theorem drew_alloc (w : World) (o : Obj) : Below w.heap.size w ((w.alloc o).drew) := Below.drew (Below.alloc (Below.refl _ _) (Nat.le_refl _) o)
theorem fr_new {w0 w wX : World} {B a m : Nat} {T T' : Int} {F G F' G' : Nat → Prop} {fv fv' : Value} {A' A Y' Y : List (List (El 3))} {j p q : Nat} (h : BkI w0 w B a m T F G fv A' A) (_hX : BkI w0 wX B a m T' F' G' fv' Y' Y) (hq : q < wX.heap.size) (h1 : p ≤ j) (h2 : j < q) (hp : w.heap.size ≤ p) (hf : ∀ i ∈ fv'.ownBlock.toList, i < w.heap.size ∨ q ≤ i) : Fr wX B a m fv' j := by
  have ha := h.2.1.1.lt
  have hm := h.2.1.mlt
  have hB := h.1.lt
  exact ⟨by omega, by omega, by omega, by omega, fun hx => by rcases hf j hx with h | h <;> omega⟩
theorem two_fresh {w w5 : World} {v5 v6 : Value} (hg : w.grownBy w5 none) (hm5 : Moved w (.slice none 0 0) v5) (hm6 : Moved w5 v5 v6) : ∀ j ∈ v6.ownBlock.toList, w.heap.size ≤ j := fun j hj => by
  rcases hm6 with e | e
  · rw [e] at hj
    rcases hm5 with e | e
    · rw [e] at hj; cases hj
    · exact e j hj
  · exact Nat.le_trans hg.size (e j hj)
def TakeEnd (w0 : World) (B a m : Nat) (T : Int) (A : List (List (El 3))) (g : Bool) (e : Ending) (w' : World) : Prop := e = .returned (.tuple #[]) ∧ ∃ l T' F' G' fv', Desc l ∧ T ≤ T' ∧ T' ≤ T + 1 ∧ BkI w0 w' B a m T' F' G' fv' (takeA A g l) (takeA A g l)
theorem info_fact : (Tryz.prog.info? 61).map (fun i => (i.zero, i.size, i.bytes)) = some (some (.agg #[.string ByteArray.empty, .string ByteArray.empty, .string ByteArray.empty, .string ByteArray.empty, .slice none 0 0]), 5, 88) := by kernel_rfl
theorem TakeEnd.mk {w0 w' : World} {B a m : Nat} {T T' : Int} {F' G' : Nat → Prop} {fv' : Value} {A X : List (List (El 3))} {g : Bool} {l : List (El 3)} (hd : Desc l) (h1 : T ≤ T') (h2 : T' ≤ T + 1) (hX : takeA A g l = X) (h : BkI w0 w' B a m T' F' G' fv' X X) : TakeEnd w0 B a m T A g (.returned (.tuple #[])) w' := by
  subst hX
  exact ⟨rfl, l, T', F', G', fv', hd, h1, h2, h⟩
set_option maxRecDepth 20000 in
set_option maxHeartbeats 4000000 in
theorem ktake_any (w0 w : World) (B a m : Nat) (T : Int) (F G : Nat → Prop) (fv : Value) (A : List (List (El 3))) (a1 a2 : Option Addr) (n1 c1 n2 c2 : Nat) (Z1 Z2 : Nat → Int) (g : Bool) (h : BkI w0 w B a m T F G fv A A) (hG : Good (n := 1) A) (hD : ∀ l ∈ A, Desc l) (hT : 0 ≤ T ∧ T < 4611686018427387904) (hN : NamesV w0) (hv : Vars w0) (h1 : Raws w a1 n1 c1 Z1) (h2 : Raws w a2 n2 c2 Z2) :
    Calls Tryz.prog 57 #[ptr B, .agg #[.slice a1 n1 c1, .slice a2 n2 c2, .bool g]] w (TakeEnd w0 B a m T A g) := by
  obtain ⟨i0, hi, hz0, hz1, hz2⟩ := info_parts info_fact
  have HI := hid hi
  have H := hid h
  have HG := hid hG
  have HD := hid hD
  have HN := hid hN
  have HV := hid hv
  have R1 := hid h1
  have R2 := hid h2
  clear hi h hG hD hN hv h1 h2
  go_enter Tryz.func57, Tryz.ntmps57
  go_wp2_with fail
  have U0 := Below.alloc (Below.refl w.heap.size w) (Nat.le_refl _) (.cells #[.slice a1 n1 c1, .slice a2 n2 c2, .bool g] 102)
  have PB : cls (w.alloc (.cells #[.slice a1 n1 c1, .slice a2 n2 c2, .bool g] 102)) w.heap.size #[.slice a1 n1 c1, .slice a2 n2 c2, .bool g] 102 := heap_alloc_new _ _
  generalize w.alloc (.cells #[.slice a1 n1 c1, .slice a2 n2 c2, .bool g] 102) = W0 at U0 PB ⊢
  go_at_call 107
  refine (described_any a1 a2 n1 c1 n2 c2 Z1 Z2 g W0 (R1.out.up U0) (R2.out.up U0)).mono ?_
  rintro e w1 ⟨sv, l, rfl, u1, hrd, hdesc⟩
  have PB1 := hid (PB.up u1)
  have U1 := hid (U0.trans (u1.mono U0.size))
  have RD1 := hid hrd
  have HDE := hid hdesc
  have hWs := U0.size
  clear PB u1 hrd hdesc U0
  obtain ⟨ads, caps, rfl⟩ := RD1.out.slice
  unfold factV
  go_wp2_with fail
  have FB2 : cls (w1.alloc (.cells #[.string (bs (nm (n := 2) 0 l)), .string (bs (nm (n := 2) 1 l)), .string (bs (nm (n := 2) 2 l)), .string (bs (nm (n := 2) 3 l)), .slice ads l.length caps] 61)) w1.heap.size #[.string (bs (nm (n := 2) 0 l)), .string (bs (nm (n := 2) 1 l)), .string (bs (nm (n := 2) 2 l)), .string (bs (nm (n := 2) 3 l)), .slice ads l.length caps] 61 := heap_alloc_new _ _
  have u2 := Below.alloc (Below.refl w1.heap.size w1) (Nat.le_refl _) (.cells #[.string (bs (nm (n := 2) 0 l)), .string (bs (nm (n := 2) 1 l)), .string (bs (nm (n := 2) 2 l)), .string (bs (nm (n := 2) 3 l)), .slice ads l.length caps] 61)
  have FB2' := hid FB2
  have U2 := hid (U1.out.trans (u2.mono U1.out.size))
  have PB2 := hid (PB1.out.up u2)
  have RD2 := hid (RD1.out.up u2)
  have H2 := hid (H.out.up U2.out)
  have HW1 := hid (show w.heap.size ≤ w1.heap.size from U1.out.size)
  generalize w1.alloc (.cells #[.string (bs (nm (n := 2) 0 l)), .string (bs (nm (n := 2) 1 l)), .string (bs (nm (n := 2) 2 l)), .string (bs (nm (n := 2) 3 l)), .slice ads l.length caps] 61) = w2 at FB2' U2 PB2 RD2 H2 ⊢
  clear FB2 u2 PB1 RD1
  obtain ⟨xs0, hown0, _⟩ := H2.out.2.2.1
  obtain ⟨adf, capf, rfl⟩ := row_sl hown0
  have hA48 := HG.out.1
  clear hown0
  go_loopw [5, 6] (fun z i wr => ∃ (k : Nat) (y : Int), k ≤ A.length ∧ i = .int .i64 k ∧ z = .int .i64 y ∧ Hid (AtI A (nm (n := 2) 3 l) k y) ∧ (-1 ≤ y ∧ y < A.length) ∧ Hid (Below w2.heap.size w2 wr)) (fun _ i _ => A.length - (intOf i).toNat)
  case atStart => exact ⟨0, -1, Nat.zero_le _, rfl, rfl, AtI.zero _ _, by omega, Below.refl _ _⟩
  case round =>
    obtain ⟨k, y, hk, rfl, rfl, hat, hy, hU⟩ := hrel
    have HB := H2.out.up hU.out
    have b1 := HB.1.at (i := 1) rfl
    by_cases hkl : k < A.length
    · obtain ⟨gg, cap9, sv9, e9, c9, _, _⟩ := HB.at (List.getElem?_eq_getElem hkl)
      obtain ⟨rfl, _, rfl⟩ := Value.slice.inj e9
      have c3 := c9 3 (by omega)
      have f3 := (FB2'.out.up hU.out).at (i := 3) rfl
      have hget := hid (List.getElem?_eq_getElem hkl)
      generalize A[k] = o at c3 hget
      have hk2 : (k : Int) < A.length := by omega
      clear HB c9 e9
      have e1 := bs_toList (nm (n := 2) 3 o)
      have e2 := bs_toList (nm (n := 2) 3 l)
      by_cases hnm : nm (n := 2) 3 o = nm (n := 2) 3 l
      · have hb3 : (nm (n := 2) 3 o == nm (n := 2) 3 l) = true := by simpa using hnm
        have hY := hid (AtI.yes hget.out hnm)
        clear hnm
        generalize nm (n := 2) 3 o = nn at c3 e1 hb3
        go_wp2_with fail
        go_quiet (fail)
        go_wp2
        go_roundw
        case rel => exact ⟨k + 1, k, by omega, by go_num, rfl, hY, by omega, below_drewN hU.out _⟩
        case measure => simp [intOf]; omega
      · have hb3 : (nm (n := 2) 3 o == nm (n := 2) 3 l) = false := by simpa using hnm
        have hY := hid (AtI.no hat.out hget.out hnm)
        clear hnm
        generalize nm (n := 2) 3 o = nn at c3 e1 hb3
        go_wp2_with fail
        go_quiet (fail)
        go_wp2
        go_roundw
        case rel => exact ⟨k + 1, y, by omega, by go_num, rfl, hY, by omega, below_drewN hU.out _⟩
        case measure => simp [intOf]; omega
    · obtain rfl : k = A.length := by omega
      have HE := hid (hat.out.end HG.out.2.1)
      have H3 := hid HB
      have FB3 := hid (FB2'.out.up hU.out)
      have PB3 := hid (PB2.out.up hU.out)
      have RD3 := hid (RD2.out.up hU.out)
      have p2 := PB3.out.at (i := 2) rfl
      have f3 := FB3.out.at (i := 3) rfl
      have b0 := H3.out.1.at (i := 0) rfl
      clear HB
      cases g with
      | true =>
        have Hd := H3.out.up (Below.drew (Below.refl wr.heap.size wr))
        have CD := hid (Delete_any 1 F wr.drew a m T A (nm (n := 2) 3 l) Hd.2.1 (fun j hj => ⟨(Hd.2.2.2.1 j hj).1, (Hd.2.2.2.1 j hj).2.2.1⟩) HG.out.2.1 hA48 (by have := (desc_nm HDE.out (i := 3) (by decide)).2.2.1; unfold maxLen; omega))
        have hfl := FB3.out.lt
        have hmB := Hd.2.2.2.2.2.1.2.1
        have hml := Hd.2.1.mlt
        have hBl := Hd.1.lt
        have hwl := HW1.out
        have KS := hid (show ∀ w4, UpB m wr.drew w4 → w4.cell? ⟨B, 0, none⟩ = some (ptr a) ∧ w4.cell? ⟨w1.heap.size, 3, none⟩ = some (.string (bs (nm (n := 2) 3 l))) from fun w4 u => ⟨cell_keep (p := ⟨B, 0, none⟩) (u.block (j := B) hBl (fun e => hmB e.symm)) b0, cell_keep (p := ⟨w1.heap.size, 3, none⟩) (u.block (j := w1.heap.size) hfl (fun e => by have := H.out.2.1.mlt; omega)) f3⟩)
        clear Hd hfl hmB hml hBl hwl
        go_wp2_with fail
        go_region_held3 (fun W => W.cell? ⟨B, 0, none⟩ = some (ptr a) ∧ W.cell? ⟨w1.heap.size, 3, none⟩ = some (.string (bs (nm (n := 2) 3 l)))) (first | go_keep | exact KS.out _ (by assumption)) (first | (go_at_call 50; refine CD.out.mono ?_; rintro e w4 ⟨rfl, u4, hP4⟩))
        have Hd := H3.out.up (Below.drew (Below.refl wr.heap.size wr))
        have H4 := hid (BkI.arch Hd (fun j hj _ hjm => u4.block hj hjm) u4.1 u4.size hP4)
        have hml := H.out.2.1.mlt
        have hBl := H.out.1.lt
        have PB4 := hid (PB3.out.keep (w' := w4) (u4.block (j := w.heap.size) (by have := PB3.out.lt; exact this) (by omega)))
        have p4 := PB4.out.at (i := 2) rfl
        have b2 := H4.out.1.at (i := 2) rfl
        have f2 := H4.out.1.free 2
        have b1 := H4.out.1.at (i := 1) rfl
        have hBw : w.heap.size ≠ B := by omega
        clear Hd u4 hP4 hml hBl
        rcases HE.out with ⟨rfl, ho⟩ | ⟨i, rfl, hi, ho⟩
        · have hd : decide ((outA A (nm (n := 2) 3 l)).length < A.length) = false := by rw [ho]; simp
          rw [hd]
          go_wp2_with fail
          refine bodyPost_ret (results_none rfl _ _ _) rfl ?_
          exact ⟨rfl, l, T, _, _, _, HDE.out, by omega, by omega, by have := H4.out.ok; rw [show takeA A true l = outA A (nm (n := 2) 3 l) from rfl]; rw [ho] at this ⊢; exact this⟩
        · have hd : decide ((outA A (nm (n := 2) 3 l)).length < A.length) = true := by rw [ho, List.length_append, List.length_take, List.length_drop]; simp; omega
          rw [hd]
          have H5 := hid H4.out.ok
          have PB5 := hid (PB4.out.keep (w' := w4.setCell ⟨B, 2, none⟩ (.bool true)) (Below.heap_setCell _ _ _ _ (by show w.heap.size ≠ B; omega)))
          obtain ⟨gf, capg, x1, x2, e9, hcap, l1, l2, hc1, hc2, ho1, ho2, hfin⟩ := H5.out.rm hi
          obtain ⟨rfl, _, rfl⟩ := Value.slice.inj e9
          have hi0 : (0 : Int) ≤ i := by omega
          have hic : (i : Int) ≤ capf := by omega
          have C1 := hid hc1
          have C2 := hid hc2
          have O1 := hid ho1
          have O2 := hid ho2
          have FN := hid hfin
          clear e9 hc1 hc2 ho1 ho2 hfin
          have hiA : i + 1 ≤ A.length := hi
          go_wp2_with (at_builtin; refine wpList_append_sep _ rfl _ _ 63 rfl 61 i0 (.agg #[.string ByteArray.empty, .string ByteArray.empty, .string ByteArray.empty, .string ByteArray.empty, .slice none 0 0]) 5 88 Tryz.underlying63 HI.out hz0 hz1 hz2 rfl (by decide) _ _ _ rfl (World.ownsRow_nil _ _ _ _) ⟨gf, 0, none⟩ i capf x1 rfl l1 C1.out O1.out (by unfold maxLen; omega) (by omega) ?_)
          intro v5 w5 hown5 hg5 hm5
          have b15 := cell_keep (p := ⟨B, 1, none⟩) (hg5.block B H5.out.1.lt (fun h => by cases h)) (H5.out.1.at (i := 1) rfl)
          obtain ⟨ad5, cap5, rfl⟩ := own_slice2 hown5
          have O5 := hid hown5
          by_cases hcz : capf = i + 1
          · have HX2 := hid (show x2 = [] from List.eq_nil_of_length_eq_zero (by rw [l2]; omega))
            have hz5 : capf - (i + 1) = 0 := by omega
            go_wp2_with (at_builtin; refine wpList_append_sep _ rfl _ _ 63 rfl 61 i0 (.agg #[.string ByteArray.empty, .string ByteArray.empty, .string ByteArray.empty, .string ByteArray.empty, .slice none 0 0]) 5 88 Tryz.underlying63 HI.out hz0 hz1 hz2 rfl (by decide) _ _ _ rfl O5.out _ (A.length - (i + 1)) _ x2 rfl l2 (fun j u hu => by rw [HX2.out] at hu; simp at hu) O2.out (by unfold maxLen; omega) (by omega) ?_)
            intro v6 w6 hown6 hg6 hm6
            have B6 := two_grown hg5 hm5 hg6
            have H6 := hid (FN.out _ _ _ _ hg5 hm5 hown6 hg6 hm6)
            have b16 := (H5.out.1.up B6).at (i := 1) rfl
            have f16 := (H5.out.1.up B6).free 1
            have p6 := (PB5.out.up B6).at (i := 2) rfl
            obtain ⟨ad6, cap6, rfl⟩ := own_slice2 hown6
            clear hown6 hg6 hm6 B6
            go_wp2_with fail
            refine bodyPost_ret (results_none rfl _ _ _) rfl ?_
            exact ⟨rfl, l, T, _, _, _, HDE.out, by omega, by omega, by have := H6.out; rw [show takeA A true l = outA A (nm (n := 2) 3 l) from rfl]; rw [ho] at this ⊢; exact this⟩
          · have C5 := hid (C2.out w5 hg5)
            have hcz2 : ¬ capf - (i + 1) = 0 := by omega
            go_wp2_with (at_builtin; refine wpList_append_sep _ rfl _ _ 63 rfl 61 i0 (.agg #[.string ByteArray.empty, .string ByteArray.empty, .string ByteArray.empty, .string ByteArray.empty, .slice none 0 0]) 5 88 Tryz.underlying63 HI.out hz0 hz1 hz2 rfl (by decide) _ _ _ rfl O5.out ⟨gf, (i + 1) * 5, none⟩ (A.length - (i + 1)) (capf - (i + 1)) x2 rfl l2 C5.out O2.out (by unfold maxLen; omega) (by omega) ?_)
            intro v6 w6 hown6 hg6 hm6
            have B6 := two_grown hg5 hm5 hg6
            have H6 := hid (FN.out _ _ _ _ hg5 hm5 hown6 hg6 hm6)
            have b16 := (H5.out.1.up B6).at (i := 1) rfl
            have f16 := (H5.out.1.up B6).free 1
            have p6 := (PB5.out.up B6).at (i := 2) rfl
            obtain ⟨ad6, cap6, rfl⟩ := own_slice2 hown6
            clear hown6 hg6 hm6 B6
            go_wp2_with fail
            refine bodyPost_ret (results_none rfl _ _ _) rfl ?_
            exact ⟨rfl, l, T, _, _, _, HDE.out, by omega, by omega, by have := H6.out; rw [show takeA A true l = outA A (nm (n := 2) 3 l) from rfl]; rw [ho] at this ⊢; exact this⟩
      | false =>
        have f4 := FB3.out.at (i := 4) rfl
        go_wp2_with fail
        go_at_call 37
        refine (Encode_any 3 (by decide) _ wr _ l (fun j hj => by have h1 : W0.heap.size ≤ j ∧ j < w1.heap.size := hj; have := FB3.out.lt; omega) RD3.out (fun _ => Nat.le_trans HDE.out.2.2.1 (by decide))).mono ?_
        rintro e w4 ⟨u4, ⟨hbad, _⟩ | ⟨_, rfl⟩⟩
        · exact absurd HDE.out.1 hbad
        have H4 := hid (H3.out.up u4)
        have FB4 := hid (FB3.out.up u4)
        have PB4 := hid (PB3.out.up u4)
        have RD4 := hid (RD3.out.up u4)
        have b0' := H4.out.1.at (i := 0) rfl
        clear u4 p2 f3 f4 b0 b1
        go_wp2_with fail
        go_at_call 48
        refine (Store_any F w4 a m T A (wrS false 0 3 l) H4.out.2.1 (fun j hj => by obtain ⟨q1, q2, q3, _⟩ := H4.out.2.2.2.1 j hj; exact ⟨q1, q2, q3⟩) HG.out (HV.out.up H4.out.2.2.2.2.2.2.2) (HN.out.up H4.out.2.2.2.2.2.2.2) hT).mono ?_
        rintro e w5 ⟨rfl, k5, o5, s5, T', hT1, hT2, hP5⟩
        have H5 := hid (BkI.arch H4.out k5 o5 s5 hP5)
        have hml := H.out.2.1.mlt
        have hal := H.out.2.1.1.lt
        have hBl := H.out.1.lt
        have hw1 := HW1.out
        have K5 := hid (show ∀ j, w.heap.size ≤ j → j < w4.heap.size → w5.heap[j]? = w4.heap[j]? from fun j h1 h2 => k5 j h2 (by omega) (by omega))
        have FB5 := hid (FB4.out.keep (K5.out _ hw1 FB4.out.lt))
        have PB5 := hid (PB4.out.keep (K5.out _ (Nat.le_refl _) PB4.out.lt))
        have RD5 := hid (show Rd w5 (fun j => W0.heap.size ≤ j ∧ j < w1.heap.size) 3 (.slice ads l.length caps) l from RD4.out.keep (fun _ h => h) (fun j hj hl => K5.out j (by omega) hl))
        have hBw : w.heap.size ≠ B := by omega
        have hBf : w1.heap.size ≠ B := by omega
        have b1 := H5.out.1.at (i := 1) rfl
        have b2 := H5.out.1.at (i := 2) rfl
        have f2 := H5.out.1.free 2
        have p2 := PB5.out.at (i := 2) rfl
        rw [(sto_desc HDE.out).1, (lay_desc HD.out HDE.out)]
        rw [(sto_desc HDE.out).2] at H5
        clear k5 o5 s5 hP5 b0'
        rcases HE.out with ⟨rfl, ho⟩ | ⟨i, rfl, hi, ho⟩
        · by_cases h48 : 48 ≤ A.length
          · have h48' : (48 : Int) ≤ A.length := by omega
            rw [ho, if_pos h48]
            go_wp2_with fail
            refine bodyPost_ret (results_none rfl _ _ _) rfl ?_
            have hq : layA A l = A := by
              unfold layA
              rw [lay_desc HD.out HDE.out, ho, if_pos h48, if_neg (by decide)]
            have HZ := H5.out.ok
            rw [hq] at HZ
            exact TakeEnd.mk HDE.out hT1 hT2 hq HZ
          · have h48' : decide ((48 : Int) ≤ A.length) = false := by simp; omega
            have hq : layA A l = A ++ [l] := by
              unfold layA
              rw [lay_desc HD.out HDE.out, ho, if_neg h48, if_pos rfl]
            rw [ho, if_neg h48]
            rw [hq] at H5
            have NF := hid (show ∀ i ∈ (Value.slice adf A.length capf).ownBlock.toList, i < w.heap.size ∨ w1.heap.size ≤ i from fun i hi => Or.inl (by obtain ⟨xs, ho, _⟩ := H.out.2.2.1; exact ownsRow_lt ho i hi))
            go_wp2_with fail
            have HX := hid H5.out.ok
            have FX := hid (FB5.out.keep (w' := w5.setCell ⟨B, 2, none⟩ (.bool true)) (Below.heap_setCell _ _ _ _ (by show w1.heap.size ≠ B; omega)))
            have RX := hid (show Rd (w5.setCell ⟨B, 2, none⟩ (.bool true)) (fun j => W0.heap.size ≤ j ∧ j < w1.heap.size) 3 (.slice ads l.length caps) l from RD5.out.keep (fun _ h => h) (fun j hj _ => Below.heap_setCell _ _ _ _ (by show j ≠ B; omega)))
            generalize w5.setCell ⟨B, 2, none⟩ (.bool true) = wX at HX FX RX ⊢
            obtain ⟨xsX, hownX, hlsX⟩ := HX.out.2.2.1
            have OX := hid hownX
            have LX := hid hlsX
            have c0 := FX.out.at (i := 0) rfl
            have c1 := FX.out.at (i := 1) rfl
            have c2 := FX.out.at (i := 2) rfl
            have c3 := FX.out.at (i := 3) rfl
            have c4 := FX.out.at (i := 4) rfl
            have b1 := HX.out.1.at (i := 1) rfl
            have LN := hid (show A.length ≤ 48 from by omega)
            have hnB : B ≠ wX.heap.size := by have := HX.out.1.lt; omega
            have hnB2 : wX.heap.size ≠ B := fun e => hnB e.symm
            have b1a := (HX.out.1.up (Below.alloc (Below.refl _ _) (Nat.le_refl _) (.cells #[.string (bs (nm (n := 2) 0 l)), .string (bs (nm (n := 2) 1 l)), .string (bs (nm (n := 2) 2 l)), .string (bs (nm (n := 2) 3 l)), .slice ads l.length caps] 61))).at (i := 1) rfl
            clear hownX hlsX
            go_region_law (refine step_append_sep rfl (.tmp 136) (.tmp 138) 63 rfl 61 i0 (.agg #[.string ByteArray.empty, .string ByteArray.empty, .string ByteArray.empty, .string ByteArray.empty, .slice none 0 0]) 5 88 Tryz.underlying63 HI.out hz0 hz1 hz2 rfl (by decide) _ _ _ (by simp [Act.eval]) (OX.out.alloc _) ⟨wX.heap.size, 0, none⟩ 1 1 [.string (bs (nm (n := 2) 0 l)), .string (bs (nm (n := 2) 1 l)), .string (bs (nm (n := 2) 2 l)), .string (bs (nm (n := 2) 3 l)), .slice ads l.length caps] (by simp [Act.eval]) rfl (fct_at _ _ _ _ _ _ _ _ (by simp)) fct_one (by have := LN.out; unfold maxLen; omega) (by have := LN.out; omega) ?_; intro v8 w8 hown8 hg8 hm8; have CB := HX.out.1.keep (w' := w8) ((hg8.block B (by have := HX.out.1.lt; simp; omega) (fun e => (HX.out.2.2.2.2.2.1.2.2 B (by rw [← e]; simp)).2.2 rfl)).trans (Below.heap_alloc _ _ _ HX.out.1.lt)); have b8 := CB.at (i := 1) rfl; have f8 := CB.free 1; have HZ := hid (BkI.add HX.out LX.out (drew_alloc wX _) hown8 hg8 hm8 RX.out (fun j hj => fr_new H.out HX.out FX.out.lt (show W0.heap.size ≤ j ∧ j < w1.heap.size from hj).1 (show W0.heap.size ≤ j ∧ j < w1.heap.size from hj).2 hWs NF.out)); obtain ⟨ad8, cap8, rfl⟩ := own_slice2 hown8; clear hown8 hg8 hm8 CB)
            all_goals go_wp2
            all_goals refine bodyPost_ret (results_none rfl _ _ _) rfl ?_
            all_goals exact TakeEnd.mk HDE.out hT1 hT2 hq HZ.out
        · have hAX := hid (show (A.take i ++ A.drop (i + 1)).length = i + (A.length - (i + 1)) from by rw [List.length_append, List.length_take, List.length_drop]; omega)
          have hq : layA A l = A.take i ++ A.drop (i + 1) ++ [l] := by
            unfold layA
            rw [lay_desc HD.out HDE.out, ho, if_neg (show ¬ 48 ≤ (A.take i ++ A.drop (i + 1)).length by rw [hAX.out]; omega), if_pos rfl]
          rw [ho, if_neg (show ¬ 48 ≤ (A.take i ++ A.drop (i + 1)).length by rw [hAX.out]; omega)]
          rw [hq] at H5
          have H6 := hid H5.out.ok
          have PB6 := hid (PB5.out.keep (w' := w5.setCell ⟨B, 2, none⟩ (.bool true)) (Below.heap_setCell _ _ _ _ (by show w.heap.size ≠ B; omega)))
          have FB6 := hid (FB5.out.keep (w' := w5.setCell ⟨B, 2, none⟩ (.bool true)) (Below.heap_setCell _ _ _ _ (by show w1.heap.size ≠ B; omega)))
          have RD6 := hid (show Rd (w5.setCell ⟨B, 2, none⟩ (.bool true)) (fun j => W0.heap.size ≤ j ∧ j < w1.heap.size) 3 (.slice ads l.length caps) l from RD5.out.keep (fun _ h => h) (fun j hj _ => Below.heap_setCell _ _ _ _ (by show j ≠ B; omega)))
          obtain ⟨gf, capg, x1, x2, e9, hcap, l1, l2, hc1, hc2, ho1, ho2, hfin⟩ := H6.out.rm hi
          obtain ⟨rfl, _, rfl⟩ := Value.slice.inj e9
          have hi0 : (0 : Int) ≤ i := by omega
          have hi00 : ¬ (i : Int) < 0 := by omega
          have hic : (i : Int) ≤ capf := by omega
          have C1 := hid hc1
          have C2 := hid hc2
          have O1 := hid ho1
          have O2 := hid ho2
          have FN := hid hfin
          clear e9 hc1 hc2 ho1 ho2 hfin
          have hiA : i + 1 ≤ A.length := hi
          go_wp2_with (at_builtin; refine wpList_append_sep _ rfl _ _ 63 rfl 61 i0 (.agg #[.string ByteArray.empty, .string ByteArray.empty, .string ByteArray.empty, .string ByteArray.empty, .slice none 0 0]) 5 88 Tryz.underlying63 HI.out hz0 hz1 hz2 rfl (by decide) _ _ _ rfl (World.ownsRow_nil _ _ _ _) ⟨gf, 0, none⟩ i capf x1 rfl l1 C1.out O1.out (by unfold maxLen; omega) (by omega) ?_)
          intro v5 w5' hown5 hg5 hm5
          have b15 := cell_keep (p := ⟨B, 1, none⟩) (hg5.block B H6.out.1.lt (fun h => by cases h)) (H6.out.1.at (i := 1) rfl)
          obtain ⟨ad5, cap5, rfl⟩ := own_slice2 hown5
          have O5 := hid hown5
          by_cases hcz : capf = i + 1
          · have HX2 := hid (show x2 = [] from List.eq_nil_of_length_eq_zero (by rw [l2]; omega))
            have hz5 : capf - (i + 1) = 0 := by omega
            go_wp2_with (at_builtin; refine wpList_append_sep _ rfl _ _ 63 rfl 61 i0 (.agg #[.string ByteArray.empty, .string ByteArray.empty, .string ByteArray.empty, .string ByteArray.empty, .slice none 0 0]) 5 88 Tryz.underlying63 HI.out hz0 hz1 hz2 rfl (by decide) _ _ _ rfl O5.out _ (A.length - (i + 1)) _ x2 rfl l2 (fun j u hu => by rw [HX2.out] at hu; simp at hu) O2.out (by unfold maxLen; omega) (by omega) ?_)
            intro v6 w6 hown6 hg6 hm6
            have B6 := two_grown hg5 hm5 hg6
            have H7 := hid (FN.out _ _ _ _ hg5 hm5 hown6 hg6 hm6)
            have b16 := (H6.out.1.up B6).at (i := 1) rfl
            have f16 := (H6.out.1.up B6).free 1
            have p6 := (PB6.out.up B6).at (i := 2) rfl
            have FB7 := hid (FB6.out.up B6)
            have RD7 := hid (show Rd w6 (fun j => W0.heap.size ≤ j ∧ j < w1.heap.size) 3 (.slice ads l.length caps) l from RD6.out.up B6)
            have NF := hid (show ∀ i ∈ v6.ownBlock.toList, i < w.heap.size ∨ w1.heap.size ≤ i from fun i hi => Or.inr (by have h1 := two_fresh hg5 hm5 hm6 i hi; have h2 := FB6.out.lt; omega))
            obtain ⟨ad6, cap6, rfl⟩ := own_slice2 hown6
            clear hown6 hg6 hm6 B6
            go_wp2_with fail
            have HX := H7
            have FX := hid (FB7.out.keep (w' := w6.setCell ⟨B, 1, none⟩ (.slice ad6 (i + (A.length - (i + 1))) cap6)) (Below.heap_setCell _ _ _ _ (by show w1.heap.size ≠ B; omega)))
            have RX := hid (show Rd (w6.setCell ⟨B, 1, none⟩ (.slice ad6 (i + (A.length - (i + 1))) cap6)) (fun j => W0.heap.size ≤ j ∧ j < w1.heap.size) 3 (.slice ads l.length caps) l from RD7.out.keep (fun _ h => h) (fun j hj _ => Below.heap_setCell _ _ _ _ (by show j ≠ B; omega)))
            generalize w6.setCell ⟨B, 1, none⟩ (.slice ad6 (i + (A.length - (i + 1))) cap6) = wX at HX FX RX ⊢
            obtain ⟨xsX, hownX, hlsX⟩ := HX.out.2.2.1
            have OX := hid hownX
            have LX := hid hlsX
            have c0 := FX.out.at (i := 0) rfl
            have c1 := FX.out.at (i := 1) rfl
            have c2 := FX.out.at (i := 2) rfl
            have c3 := FX.out.at (i := 3) rfl
            have c4 := FX.out.at (i := 4) rfl
            have b1 := HX.out.1.at (i := 1) rfl
            have LN := hid (show (A.take i ++ A.drop (i + 1)).length ≤ 48 from by rw [hAX.out]; omega)
            have hnB : B ≠ wX.heap.size := by have := HX.out.1.lt; omega
            have hnB2 : wX.heap.size ≠ B := fun e => hnB e.symm
            have b1a := (HX.out.1.up (Below.alloc (Below.refl _ _) (Nat.le_refl _) (.cells #[.string (bs (nm (n := 2) 0 l)), .string (bs (nm (n := 2) 1 l)), .string (bs (nm (n := 2) 2 l)), .string (bs (nm (n := 2) 3 l)), .slice ads l.length caps] 61))).at (i := 1) rfl
            clear hownX hlsX
            go_region_law (refine step_append_sep rfl (.tmp 136) (.tmp 138) 63 rfl 61 i0 (.agg #[.string ByteArray.empty, .string ByteArray.empty, .string ByteArray.empty, .string ByteArray.empty, .slice none 0 0]) 5 88 Tryz.underlying63 HI.out hz0 hz1 hz2 rfl (by decide) _ _ _ (by simp [Act.eval]) (OX.out.alloc _) ⟨wX.heap.size, 0, none⟩ 1 1 [.string (bs (nm (n := 2) 0 l)), .string (bs (nm (n := 2) 1 l)), .string (bs (nm (n := 2) 2 l)), .string (bs (nm (n := 2) 3 l)), .slice ads l.length caps] (by simp [Act.eval]) rfl (fct_at _ _ _ _ _ _ _ _ (by simp)) fct_one (by have := LN.out; unfold maxLen; omega) (by have := LN.out; omega) ?_; intro v8 w8 hown8 hg8 hm8; have CB := HX.out.1.keep (w' := w8) ((hg8.block B (by have := HX.out.1.lt; simp; omega) (fun e => (HX.out.2.2.2.2.2.1.2.2 B (by rw [← e]; simp)).2.2 rfl)).trans (Below.heap_alloc _ _ _ HX.out.1.lt)); have b8 := CB.at (i := 1) rfl; have f8 := CB.free 1; have HZ := hid (BkI.add HX.out LX.out (drew_alloc wX _) hown8 hg8 hm8 RX.out (fun j hj => fr_new H.out HX.out FX.out.lt (show W0.heap.size ≤ j ∧ j < w1.heap.size from hj).1 (show W0.heap.size ≤ j ∧ j < w1.heap.size from hj).2 hWs NF.out)); obtain ⟨ad8, cap8, rfl⟩ := own_slice2 hown8; clear hown8 hg8 hm8 CB)
            all_goals go_wp2
            all_goals refine bodyPost_ret (results_none rfl _ _ _) rfl ?_
            all_goals exact TakeEnd.mk HDE.out hT1 hT2 hq (by have HZ' := HZ.out; simp only [List.length_append, List.length_take, List.length_drop] at HZ'; exact HZ')
          · have C5 := hid (C2.out w5' hg5)
            have hcz2 : ¬ capf - (i + 1) = 0 := by omega
            go_wp2_with (at_builtin; refine wpList_append_sep _ rfl _ _ 63 rfl 61 i0 (.agg #[.string ByteArray.empty, .string ByteArray.empty, .string ByteArray.empty, .string ByteArray.empty, .slice none 0 0]) 5 88 Tryz.underlying63 HI.out hz0 hz1 hz2 rfl (by decide) _ _ _ rfl O5.out ⟨gf, (i + 1) * 5, none⟩ (A.length - (i + 1)) (capf - (i + 1)) x2 rfl l2 C5.out O2.out (by unfold maxLen; omega) (by omega) ?_)
            intro v6 w6 hown6 hg6 hm6
            have B6 := two_grown hg5 hm5 hg6
            have H7 := hid (FN.out _ _ _ _ hg5 hm5 hown6 hg6 hm6)
            have b16 := (H6.out.1.up B6).at (i := 1) rfl
            have f16 := (H6.out.1.up B6).free 1
            have p6 := (PB6.out.up B6).at (i := 2) rfl
            have FB7 := hid (FB6.out.up B6)
            have RD7 := hid (show Rd w6 (fun j => W0.heap.size ≤ j ∧ j < w1.heap.size) 3 (.slice ads l.length caps) l from RD6.out.up B6)
            have NF := hid (show ∀ i ∈ v6.ownBlock.toList, i < w.heap.size ∨ w1.heap.size ≤ i from fun i hi => Or.inr (by have h1 := two_fresh hg5 hm5 hm6 i hi; have h2 := FB6.out.lt; omega))
            obtain ⟨ad6, cap6, rfl⟩ := own_slice2 hown6
            clear hown6 hg6 hm6 B6
            go_wp2_with fail
            have HX := H7
            have FX := hid (FB7.out.keep (w' := w6.setCell ⟨B, 1, none⟩ (.slice ad6 (i + (A.length - (i + 1))) cap6)) (Below.heap_setCell _ _ _ _ (by show w1.heap.size ≠ B; omega)))
            have RX := hid (show Rd (w6.setCell ⟨B, 1, none⟩ (.slice ad6 (i + (A.length - (i + 1))) cap6)) (fun j => W0.heap.size ≤ j ∧ j < w1.heap.size) 3 (.slice ads l.length caps) l from RD7.out.keep (fun _ h => h) (fun j hj _ => Below.heap_setCell _ _ _ _ (by show j ≠ B; omega)))
            generalize w6.setCell ⟨B, 1, none⟩ (.slice ad6 (i + (A.length - (i + 1))) cap6) = wX at HX FX RX ⊢
            obtain ⟨xsX, hownX, hlsX⟩ := HX.out.2.2.1
            have OX := hid hownX
            have LX := hid hlsX
            have c0 := FX.out.at (i := 0) rfl
            have c1 := FX.out.at (i := 1) rfl
            have c2 := FX.out.at (i := 2) rfl
            have c3 := FX.out.at (i := 3) rfl
            have c4 := FX.out.at (i := 4) rfl
            have b1 := HX.out.1.at (i := 1) rfl
            have LN := hid (show (A.take i ++ A.drop (i + 1)).length ≤ 48 from by rw [hAX.out]; omega)
            have hnB : B ≠ wX.heap.size := by have := HX.out.1.lt; omega
            have hnB2 : wX.heap.size ≠ B := fun e => hnB e.symm
            have b1a := (HX.out.1.up (Below.alloc (Below.refl _ _) (Nat.le_refl _) (.cells #[.string (bs (nm (n := 2) 0 l)), .string (bs (nm (n := 2) 1 l)), .string (bs (nm (n := 2) 2 l)), .string (bs (nm (n := 2) 3 l)), .slice ads l.length caps] 61))).at (i := 1) rfl
            clear hownX hlsX
            go_region_law (refine step_append_sep rfl (.tmp 136) (.tmp 138) 63 rfl 61 i0 (.agg #[.string ByteArray.empty, .string ByteArray.empty, .string ByteArray.empty, .string ByteArray.empty, .slice none 0 0]) 5 88 Tryz.underlying63 HI.out hz0 hz1 hz2 rfl (by decide) _ _ _ (by simp [Act.eval]) (OX.out.alloc _) ⟨wX.heap.size, 0, none⟩ 1 1 [.string (bs (nm (n := 2) 0 l)), .string (bs (nm (n := 2) 1 l)), .string (bs (nm (n := 2) 2 l)), .string (bs (nm (n := 2) 3 l)), .slice ads l.length caps] (by simp [Act.eval]) rfl (fct_at _ _ _ _ _ _ _ _ (by simp)) fct_one (by have := LN.out; unfold maxLen; omega) (by have := LN.out; omega) ?_; intro v8 w8 hown8 hg8 hm8; have CB := HX.out.1.keep (w' := w8) ((hg8.block B (by have := HX.out.1.lt; simp; omega) (fun e => (HX.out.2.2.2.2.2.1.2.2 B (by rw [← e]; simp)).2.2 rfl)).trans (Below.heap_alloc _ _ _ HX.out.1.lt)); have b8 := CB.at (i := 1) rfl; have f8 := CB.free 1; have HZ := hid (BkI.add HX.out LX.out (drew_alloc wX _) hown8 hg8 hm8 RX.out (fun j hj => fr_new H.out HX.out FX.out.lt (show W0.heap.size ≤ j ∧ j < w1.heap.size from hj).1 (show W0.heap.size ≤ j ∧ j < w1.heap.size from hj).2 hWs NF.out)); obtain ⟨ad8, cap8, rfl⟩ := own_slice2 hown8; clear hown8 hg8 hm8 CB)
            all_goals go_wp2
            all_goals refine bodyPost_ret (results_none rfl _ _ _) rfl ?_
            all_goals exact TakeEnd.mk HDE.out hT1 hT2 hq (by have HZ' := HZ.out; simp only [List.length_append, List.length_take, List.length_drop] at HZ'; exact HZ')
end Go.Proofs.YtaokifbpakbgdaaGreatDoor

/- Package foliokeep: text leaves all as it was. -/
namespace Go.Proofs.YtaokifbpakbgdaaGreatDoor
open Go.RowKit
set_option maxHeartbeats 1000000 in
theorem ktext_same (n : Nat) (F : Nat → Prop) (w : World) (v : Value) (l : List (El (n + 1))) (t : Int) (h : Rd w F (n + 1) v l) (hl : l.length ≤ 4398046511104) :
    Calls Tryz.prog 33 #[v, .int .i64 t] w fun e w' => e = .returned (.string (bs (textE l t))) ∧ w' = w := by
  obtain ⟨ad, cap, rfl⟩ := h.slice
  go_enter Tryz.func33, Tryz.ntmps33
  go_wp2_with fail
  go_loopw [5] (fun i wr => ∃ k : Nat, k ≤ l.length ∧ i = .int .i64 k ∧ wr = w ∧ Hid (findE l t = findE (l.drop k) t)) (fun i _ => l.length - (intOf i).toNat)
  case atStart => exact ⟨0, Nat.zero_le _, rfl, rfl, rfl⟩
  case round =>
    obtain ⟨k, hk, rfl, rfl, hsp⟩ := hrel
    by_cases hkl : k < l.length
    · have hrd' := hid (h.at (List.getElem?_eq_getElem hkl))
      obtain ⟨a, ad2, cap2, rfl, _, d0, d1, d2, d3, _⟩ := hrd'.out
      have c0 := d0
      have c2 := d2
      have hst := hid (findE_drop hkl t)
      clear hrd' d0 d1 d2 d3
      generalize l[k] = x at c0 c2 hst
      by_cases ht : x.1 = t
      · have hd : (x.1 == t) = true := by simpa using ht
        have hF := hid (show textE l t = x.2.2.1 by unfold textE; rw [hsp.out, hst.out, if_pos ht])
        clear ht
        go_wp2
        go_ret
        exact ⟨by simp [hF.out], rfl⟩
      · have hd : (x.1 == t) = false := by simpa using ht
        have hF := hid (show findE l t = findE (l.drop (k + 1)) t by rw [hsp.out, hst.out, if_neg ht])
        clear ht
        go_wp2
        go_roundw
        case rel => exact ⟨k + 1, by omega, by go_num, by first | rfl | trivial, hF⟩
        case measure => simp [intOf]; omega
    · have hF := hid (show textE l t = [] by unfold textE; rw [hsp.out, List.drop_eq_nil_of_le (by omega)]; rfl)
      go_wp2
      go_ret
      exact ⟨by rw [hF.out]; rfl, rfl⟩
end Go.Proofs.YtaokifbpakbgdaaGreatDoor

/- Package foliokeep: an archive is played (played). -/
namespace Go.Proofs.YtaokifbpakbgdaaGreatDoor
open Go.RowKit
/-- What the walks ask of the package's variables. -/
def VarsK (w : World) : Prop := Vars w ∧ NamesV w ∧ LevelsV w ∧ CountsV w
theorem VarsK.up {w w' : World} (h : VarsK w) (k : Below w.heap.size w w') : VarsK w' := ⟨h.1.up k, h.2.1.up k, h.2.2.1.up k, h.2.2.2.up k⟩
/-- A book as it must be. -/
def Bk (w0 w : World) (B : Nat) : Prop := ∃ a m T F G fv A, BkI w0 w B a m T F G fv A A ∧ Good (n := 1) A ∧ (∀ l ∈ A, Desc l) ∧ 0 ≤ T ∧ T ≤ 81
def PlayEnd (w0 : World) (e : Ending) (w' : World) : Prop := ∃ B, e = .returned (ptr B) ∧ Bk w0 w' B
def xsP : List (El 3) := [flE 2 524312 [85, 73] [], flE 2 524384 [67, 83] []]
theorem xsP_ok : XOk 3 xsP ∧ ∀ x ∈ xsP, matchE x.2.1 x.2.2.1 [] = 0 := by
  refine ⟨⟨by decide, by decide, fun x hx => ?_⟩, fun x hx => ?_⟩
  · unfold xsP at hx
    simp only [List.mem_cons, List.not_mem_nil, or_false] at hx
    rcases hx with rfl | rfl
    · exact ⟨524312, [], rfl, by decide, by decide, by decide, by decide, by decide⟩
    · exact ⟨524384, [], rfl, by decide, by decide, by decide, by decide, by decide⟩
  · unfold xsP at hx
    simp only [List.mem_cons, List.not_mem_nil, or_false] at hx
    rcases hx with rfl | rfl
    · show matchE [85, 73] [] [] = 0; decide
    · show matchE [67, 83] [] [] = 0; decide
theorem first_one {l : List (El 3)} (hl : Desc l) : ansS [l] 3 (askQ 3 (fun i => nm (n := 2) i l) xsP) = [(askQ 3 (fun i => nm (n := 2) i l) xsP).map (ansE (gS (n := 1) [l] 3 (nm (n := 2) 3 l)))] := by
  have hD : ∀ o ∈ [l], Desc o := fun o ho => by rw [List.mem_singleton.1 ho]; exact hl
  have hG : Good (n := 1) [l] := ⟨by show 1 ≤ 48; decide, by simp, fun o ho => by rw [List.mem_singleton.1 ho]; exact ⟨hl.1, hl.2.1⟩⟩
  refine ansS_one (fun s => ?_)
  rw [names_ask hG hD (by omega) (Or.inr hl) (fun i _ => rfl) xsP_ok.1]
  constructor
  · rintro ⟨⟨o, ho, hos, _⟩, _⟩
    rw [← hos, List.mem_singleton.1 ho]
  · rintro rfl
    refine ⟨⟨l, List.mem_singleton.2 rfl, rfl, Or.inr rfl⟩, fun x hx => ?_⟩
    obtain ⟨hm, _⟩ := lastA_mem (n := 2) (A := [l]) (lvl := 3) (s := nm (n := 2) 3 l) ⟨l, List.mem_singleton.2 rfl, rfl⟩
    have hc : ∀ t ∈ tagsQ, chk (kindT t) (valG (gS (n := 1) [l] 3 (nm (n := 2) 3 l)) t) = 0 := fun t ht => tell_chk hG.1 (hG.2.2 _ hm).2 ht
    unfold xsP at hx
    simp only [List.mem_cons, List.not_mem_nil, or_false] at hx
    rcases hx with rfl | rfl
    · exact match_empty (hc 524312 (by decide))
    · exact match_empty (hc 524384 (by decide))
theorem first_text {l : List (El 3)} : textE (n := 2) ((askQ 3 (fun i => nm (n := 2) i l) xsP).map (ansE (gS (n := 1) [l] 3 (nm (n := 2) 3 l)))) 524312 = nm (n := 2) 3 l := by
  have hm : flE 2 524312 [85, 73] [] ∈ askQ 3 (fun i => nm (n := 2) i l) xsP := askQ_mem.2 (Or.inr (Or.inr List.mem_cons_self))
  have hf := askQ_find (by omega) xsP_ok.1 hm
  have ht := find_ans (g := gS (n := 1) [l] 3 (nm (n := 2) 3 l)) hf
  refine ht.trans ?_
  obtain ⟨_, hms⟩ := lastA_mem (n := 2) (A := [l]) (lvl := 3) (s := nm (n := 2) 3 l) ⟨l, List.mem_singleton.2 rfl, rfl⟩
  have hq : (524312 : Int) ∈ tagsQ := by decide
  exact (tell_val hq (by decide)).trans hms
/-- The answers of a book. -/
theorem book_answers {w0 w : World} {B a m : Nat} {T : Int} {F G : Nat → Prop} {fv : Value} {A : List (List (El 3))} (h : BkI w0 w B a m T F G fv A A) (hG : Good (n := 1) A) (hV : VarsK w0) {lvl : Nat} (hlv : lvl < 4) {nf : Nat → By} (hn : NfOk lvl nf) {xs : List (El 3)} (hx : XOk lvl xs) (hp : ∀ x ∈ xs, matchE x.2.1 x.2.2.1 [] = 0) :
    Calls Tryz.prog 30 #[ptr B, .string (bs (wrS false 0 3 (askQ lvl nf xs)))] w fun e w' => ∃ v, e = .returned v ∧ UpB B w w' ∧ BkI w0 w' B a m T F G fv A A ∧ RdI w' (fun j => w.heap.size ≤ j ∧ j < w'.heap.size) 3 v (ansS A lvl (askQ lvl nf xs)) := by
  obtain ⟨h1, h2, h3, h4⟩ := ask_answers hG hlv hn hx hp
  have hv := hV.up h.2.2.2.2.2.2.2
  refine (kanswers_any F w B a m T A _ fv _ h.2.1 (fun j hj => (h.2.2.2.1 j hj).1) hG hv.2.1 hv.2.2.1 hv.2.2.2 hv.1 h.1 h1 h2 h3 h4).mono ?_
  rintro e w' ⟨v, he, hu, hB, hr⟩
  exact ⟨v, he, hu, h.atB hu hB, hr⟩
theorem BkI.first {w w1 : World} {a m B : Nat} (hP : ProA w1 (fun _ => False) 1 a m 0 []) (hB : B = w1.heap.size) (hu : Below w.heap.size w w1) (ha : w.heap.size ≤ a) (hm : w.heap.size ≤ m) : BkI w (w1.alloc (.cells #[ptr a, .slice none 0 0, .bool true] 65)) B a m 0 (fun _ => False) (fun _ => False) (.slice none 0 0) [] [] := by
  subst hB
  have h1 := hP.1.lt
  have h2 := hP.mlt
  have k := Below.alloc (Below.refl w1.heap.size w1) (Nat.le_refl _) (.cells #[ptr a, .slice none 0 0, .bool true] 65)
  exact ⟨heap_alloc_new _ _, hP.up k, ⟨[], World.ownsRow_nil _ _ _ _, ⟨rfl, rfl⟩⟩, fun j hj => hj.elim, fun j hj => hj.elim, ⟨by omega, by omega, fun j hj => by cases hj⟩, ⟨ha, hm, hu.size, fun j hj => by cases hj⟩, hu.trans (k.mono hu.size)⟩
set_option maxRecDepth 20000 in
set_option maxHeartbeats 4000000 in
theorem played_any (w : World) (ad : Option Addr) (n c : Nat) (hP : Pix w ad n) (hV : VarsK w) :
    Calls Tryz.prog 26 #[.slice ad n c] w (PlayEnd w) := by
  obtain ⟨hn, pb, po, hpa, hpx⟩ := hP
  have HPX := hid hpx
  have HPA := hid hpa
  have HV := hid hV
  clear hpx hpa hV
  go_enter Tryz.func26, Tryz.ntmps26
  go_wp2_with fail
  go_at_call 46
  refine (New_any 1 (fun _ => False) w).mono ?_
  rintro e w1 ⟨rfl, u1, s1, hp1⟩
  have H1 := hid (BkI.first (B := w.heap.size + 2) hp1 (by omega) u1 (by omega) (Nat.le_refl _))
  go_wp2_with fail
  go_at_call 57
  refine (ktake_any w _ (w.heap.size + 2) (w.heap.size + 1) w.heap.size 0 _ _ _ [] none none 0 0 0 0 (fun _ => 0) (fun _ => 0) false H1.out ⟨by show 0 ≤ 48; decide, by simp, fun o ho => by cases ho⟩ (fun o ho => by cases ho) (by omega) HV.out.2.1 HV.out.1 (raws_none _) (raws_none _)).mono ?_
  rintro e w2 ⟨rfl, l, T', F', G', fv', hd, hT1, hT2, hb⟩
  rw [lay_first hd] at hb
  have HDE := hid hd
  have H2 := hid hb
  obtain ⟨gf, cap, sv, rfl, c9, c4, hrd⟩ := hb.at (k := 0) (l := l) rfl
  obtain ⟨ads, caps, rfl⟩ := hrd.slice
  have b1 := hb.1.at (i := 1) rfl
  have n0 : w2.cell? ⟨gf, 0, none⟩ = some (.string (bs (nm (n := 2) 0 l))) := by simpa using c9 0 (by omega)
  have n1 : w2.cell? ⟨gf, 1, none⟩ = some (.string (bs (nm (n := 2) 1 l))) := by simpa using c9 1 (by omega)
  have n2 : w2.cell? ⟨gf, 2, none⟩ = some (.string (bs (nm (n := 2) 2 l))) := by simpa using c9 2 (by omega)
  have n3 : w2.cell? ⟨gf, 3, none⟩ = some (.string (bs (nm (n := 2) 3 l))) := by simpa using c9 3 (by omega)
  have n4 : w2.cell? ⟨gf, 4, none⟩ = some (.slice ads l.length caps) := by simpa using c4
  clear hb hd c9 c4 hrd u1 s1 hp1 H1
  rw [show ([l] : List (List (El 3))).length = 1 from rfl] at b1
  go_wp2_with fail
  have u3 := Below.alloc (Below.alloc (Below.refl w2.heap.size w2) (Nat.le_refl _) (.cells #[.string (bs (nm (n := 2) 0 l)), .string (bs (nm (n := 2) 1 l)), .string (bs (nm (n := 2) 2 l)), .string (bs (nm (n := 2) 3 l)), .slice ads l.length caps] 61)) (by simp) (.cells #[.int .i64 524312, .string ⟨#[85, 73]⟩, .string ⟨#[]⟩, .slice none 0 0, .int .i64 524384, .string ⟨#[67, 83]⟩, .string ⟨#[]⟩, .slice none 0 0] 73)
  have E3 : cls ((w2.alloc (.cells #[.string (bs (nm (n := 2) 0 l)), .string (bs (nm (n := 2) 1 l)), .string (bs (nm (n := 2) 2 l)), .string (bs (nm (n := 2) 3 l)), .slice ads l.length caps] 61)).alloc (.cells #[.int .i64 524312, .string ⟨#[85, 73]⟩, .string ⟨#[]⟩, .slice none 0 0, .int .i64 524384, .string ⟨#[67, 83]⟩, .string ⟨#[]⟩, .slice none 0 0] 73)) (w2.heap.size + 1) #[.int .i64 524312, .string (bs [85, 73]), .string (bs []), .slice none 0 0, .int .i64 524384, .string (bs [67, 83]), .string (bs []), .slice none 0 0] 73 := by
    have := heap_alloc_new (w2.alloc (.cells #[.string (bs (nm (n := 2) 0 l)), .string (bs (nm (n := 2) 1 l)), .string (bs (nm (n := 2) 2 l)), .string (bs (nm (n := 2) 3 l)), .slice ads l.length caps] 61)) (.cells #[.int .i64 524312, .string ⟨#[85, 73]⟩, .string ⟨#[]⟩, .slice none 0 0, .int .i64 524384, .string ⟨#[67, 83]⟩, .string ⟨#[]⟩, .slice none 0 0] 73)
    rw [World.size_alloc] at this
    exact this
  have F3 : cls ((w2.alloc (.cells #[.string (bs (nm (n := 2) 0 l)), .string (bs (nm (n := 2) 1 l)), .string (bs (nm (n := 2) 2 l)), .string (bs (nm (n := 2) 3 l)), .slice ads l.length caps] 61)).alloc (.cells #[.int .i64 524312, .string ⟨#[85, 73]⟩, .string ⟨#[]⟩, .slice none 0 0, .int .i64 524384, .string ⟨#[67, 83]⟩, .string ⟨#[]⟩, .slice none 0 0] 73)) w2.heap.size #[.string (bs (nm (n := 2) 0 l)), .string (bs (nm (n := 2) 1 l)), .string (bs (nm (n := 2) 2 l)), .string (bs (nm (n := 2) 3 l)), .slice ads l.length caps] 61 := (Below.heap_alloc _ _ _ (by simp)).trans (heap_alloc_new _ _)
  generalize (w2.alloc (.cells #[.string (bs (nm (n := 2) 0 l)), .string (bs (nm (n := 2) 1 l)), .string (bs (nm (n := 2) 2 l)), .string (bs (nm (n := 2) 3 l)), .slice ads l.length caps] 61)).alloc (.cells #[.int .i64 524312, .string ⟨#[85, 73]⟩, .string ⟨#[]⟩, .slice none 0 0, .int .i64 524384, .string ⟨#[67, 83]⟩, .string ⟨#[]⟩, .slice none 0 0] 73) = w3 at E3 F3 u3 ⊢
  have hG1 := hid (show Good (n := 1) [l] from ⟨by show 1 ≤ 48; decide, by simp, fun o ho => by rw [List.mem_singleton.1 ho]; exact ⟨HDE.out.1, HDE.out.2.1⟩⟩)
  have hNF := hid (show NfOk 3 (fun i => nm (n := 2) i l) from fun i hi => desc_nm HDE.out (by omega))
  have CA := hid (asked_any 3 (by omega) (fun i => nm (n := 2) i l) (.slice ads l.length caps) (fun j => j = w2.heap.size + 1) w3 ⟨w2.heap.size + 1, 0, none⟩ 2 2 xsP (el_rd2 E3 rfl) (fun j hj => by rw [hj]; exact E3.lt) hNF.out xsP_ok.1)
  go_at_call 31
  refine CA.out.mono ?_
  rintro e w4 ⟨rfl, u4⟩
  have H4 := hid ((H2.out.up u3).up u4)
  have F4 := hid (F3.up u4)
  clear E3 F3 CA n0 n1 n2 n3 n4 b1
  go_wp2_with fail
  go_at_call 30
  refine (book_answers H4.out hG1.out HV.out (by omega) hNF.out xsP_ok.1 xsP_ok.2).mono ?_
  rintro e w5 ⟨v5, rfl, u5, hb5, hr5⟩
  rw [first_one HDE.out] at hr5
  have HXT := hid (first_text (l := l))
  have HXL := hid (show ((askQ 3 (fun i => nm (n := 2) i l) xsP).map (ansE (gS (n := 1) [l] 3 (nm (n := 2) 3 l)))).length ≤ 24 from by have := (askQ_err (by omega) hNF.out xsP_ok.1).2.2; rw [List.length_map]; omega)
  generalize (askQ 3 (fun i => nm (n := 2) i l) xsP).map (ansE (gS (n := 1) [l] 3 (nm (n := 2) 3 l))) = X at hr5 HXT HXL
  generalize bs (wrS false 0 3 (askQ 3 (fun i => nm (n := 2) i l) xsP)) = qq
  obtain ⟨ad5, cap5, rfl⟩ := hr5.slice
  have H5 := hid hb5
  have hBl := H2.out.1.lt
  have F5 := hid (F4.out.keep (u5.block (j := w2.heap.size) F4.out.lt (by omega)))
  have R5 := hid hr5
  clear u3 u4 u5 hb5 hr5 H4 F4
  go_wp2_with fail
  go_at_call 53
  refine (Count_any 1 _ w5 _ _ _ [l] H5.out.2.1 hG1.out (HV.out.2.1.up H5.out.2.2.2.2.2.2.2)).mono ?_
  rintro e w6 ⟨rfl, u6⟩
  unfold arr4
  simp only [cnt_one]
  have H6 := hid (H5.out.up u6)
  have F6 := hid (F5.out.up u6)
  have R6 := hid (R5.out.up u6)
  clear u6 H5 F5 R5
  go_wp2_with fail
  have u7 := Below.alloc (Below.refl w6.heap.size w6) (Nat.le_refl _) (.cells #[.int .i64 1, .int .i64 1, .int .i64 1, .int .i64 1] 66)
  have N7 : cls (w6.alloc (.cells #[.int .i64 1, .int .i64 1, .int .i64 1, .int .i64 1] 66)) w6.heap.size #[.int .i64 1, .int .i64 1, .int .i64 1, .int .i64 1] 66 := heap_alloc_new _ _
  generalize w6.alloc (.cells #[.int .i64 1, .int .i64 1, .int .i64 1, .int .i64 1] 66) = w7 at u7 N7 ⊢
  have H7 := hid (H6.out.up u7)
  have F7 := hid (F6.out.up u7)
  have R7 := hid (R6.out.up u7)
  obtain ⟨a5, ad9, cap9, rfl, _, c5, hrd5⟩ := RdI.at R7.out (i := 0) rfl
  rw [Addr.add_zero'] at c5
  have CT := hid (fun W (hW : Below w7.heap.size w7 W) => ktext_same 2 _ W _ _ 524312 (hrd5.up hW) (by have := HXL.out; omega))
  rw [HXT.out] at CT
  have b2 := H7.out.1.at (i := 2) rfl
  have m3 := F7.out.at (i := 3) rfl
  have q0 := N7.at (i := 0) rfl
  have q1 := N7.at (i := 1) rfl
  have q2 := N7.at (i := 2) rfl
  have q3 := N7.at (i := 3) rfl
  have e1 := bs_toList (nm (n := 2) 3 l)
  have hs4 := same4 1 1 1 1
  clear u7 N7 H6 F6 R6 hrd5
  go_quiet ((go_at_call 33; refine Calls.quiet_of_same (CT.out _ (by first | exact Below.refl _ _ | exact below_drewN (Below.refl _ _) _ | exact Below.drew (Below.refl _ _)))))
  go_wp2_with fail
  have H8 := hid (fun q => H7.out.up (below_drewN (Below.refl w7.heap.size w7) q))
  go_loopw [8] (fun i wr => ∃ k : Nat, k ≤ n ∧ k ≤ 80 ∧ i = .int .i64 k ∧ Hid (∃ T F G fv A, BkI w wr (w.heap.size + 2) (w.heap.size + 1) w.heap.size T F G fv A A ∧ Good (n := 1) A ∧ (∀ l ∈ A, Desc l) ∧ 0 ≤ T ∧ T ≤ 1 + k)) (fun i _ => n - (intOf i).toNat)
  case atStart => exact ⟨0, Nat.zero_le _, by omega, rfl, _, _, _, _, _, H8.out _, hG1.out, (fun o ho => by rw [List.mem_singleton.1 ho]; exact HDE.out), by omega, by omega⟩
  case round =>
    obtain ⟨k, hk, hk8, rfl, hbk⟩ := hrel
    obtain ⟨T, F, G, fv, A, hb, hG, hD, hT0, hT3⟩ := hbk.out
    have HB := hid hb
    have b2 := hb.1.at (i := 2) rfl
    by_cases hkn : k < n ∧ k < 80
    · have hd1 : decide ((k : Int) < n) = true := by simp; omega
      have hd2 : decide ((k : Int) < 80) = true := by simp; omega
      obtain rfl := HPA.out (by omega)
      obtain ⟨a1, a2, n1, c1, n2, c2, Z1, Z2, g, p1, p2, p3, r1, r2⟩ := (HPX.out k hkn.1).up hb.2.2.2.2.2.2.2
      have hk1 : (k : Int) < n := by omega
      have CK := hid (ktake_any w wr _ _ _ T F G fv A a1 a2 n1 c1 n2 c2 Z1 Z2 g hb hG hD (by omega) HV.out.2.1 HV.out.1 r1 r2)
      clear hb hbk r1 r2
      go_wp2_with fail
      go_at_call 57
      refine CK.out.mono ?_
      rintro e w9 ⟨rfl, l9, T9, F9, G9, fv9, hd9, ht1, ht2, hb9⟩
      go_wp2
      go_roundw
      case rel => exact ⟨_, _, _, _, _, _, _, _, _, _, _, _, _, _, _, _, _, _, _, _, _, _, _, ⟨k + 1, by omega, by omega, by go_num, hid ⟨T9, F9, G9, fv9, _, hb9, takeA_good hG hd9, takeA_desc hD hd9, by omega, by omega⟩⟩, rfl⟩
      case measure => simp [intOf]; omega
    · have hq : decide ((k : Int) < n) = false ∨ (decide ((k : Int) < n) = true ∧ decide ((k : Int) < 80) = false) := by
        by_cases h1 : k < n
        · exact Or.inr ⟨by simp; omega, by simp; omega⟩
        · exact Or.inl (by simp; omega)
      have HE := hid (show PlayEnd w (.returned (ptr (w.heap.size + 2))) wr from ⟨_, rfl, _, _, T, F, G, fv, A, hb, hG, hD, hT0, by omega⟩)
      clear hb hbk
      rcases hq with hd1 | ⟨hd1, hd2⟩
      · go_wp2
        all_goals go_ret
        all_goals exact HE.out
      · go_wp2
        all_goals go_ret
        all_goals exact HE.out
end Go.Proofs.YtaokifbpakbgdaaGreatDoor

/- What the frames of Told, Filtered, Counts share: the listed variables, and pictures that came in. -/
namespace Go.Proofs.YtaokifbpakbgdaaGreatDoor
open Go.ChangeShapes Go.WideShapes Go.ChangeAt Go.RowKit
theorem cellsP_pic : Tryz.prog.cellsOf 102 = 3 := by kernel_rfl
theorem cellsP_ints : Tryz.prog.cellsOf 45 = 1 := by kernel_rfl
theorem cellsP_bool : Tryz.prog.cellsOf 4 = 1 := by kernel_rfl
/-- A []int that came in. -/
theorem open_raws {H : Type} {enc : TypeId × Value → H} {W : World} {v : Value} {fuel : Nat} {x : DataW H × List MemPlace}
    (hf : DataW.trod enc Tryz.prog W 0 (fun _ => true) true fuel 45 [v] = some x) :
    ∃ (a : Option Addr) (n c : Nat) (Z : Nat → Int), v = .slice a n c ∧ Raws W a n c Z := by
  rcases open_ints Tryz.underlying45 Tryz.underlying3 cellsA_int hf with ⟨hcs, _⟩ | ⟨a', len', cap', zs, hcs, _, hl, hm, hz, _, hcell, hwf⟩
  · obtain rfl : v = .slice none 0 0 := by simpa using hcs
    exact ⟨none, 0, 0, _, rfl, raws_none W⟩
  · obtain rfl : v = .slice (some a') len' cap' := by simpa using hcs
    simp only [if_true] at hz
    obtain ⟨b, off, spot⟩ := a'
    unfold maxLen at hm
    refine ⟨_, _, _, fun j => zs.getD j 0, rfl, raw_det _ b off len' cap' (fun j => zs.getD j 0) W (fun h0 => ?_) (by omega) (fun j hj => ?_)⟩
    · have hspot : spot = none := by simpa [Addr.add] using World.cell?_spot (hcell 0 (by omega))
      subst hspot; rfl
    · have hspot : spot = none := by simpa [Addr.add] using World.cell?_spot (hcell 0 (by omega))
      subst hspot
      refine ⟨?_, int_bd (hwf _ ?_)⟩
      · rw [← add_plain]; exact hcell j (by omega)
      · have hjl : j < zs.length := by omega
        have e : zs.getD j 0 = zs[j] := by simp [List.getD, List.getElem?_eq_getElem hjl]
        show zs.getD j 0 ∈ zs
        rw [e]
        exact List.getElem_mem _
set_option maxRecDepth 20000 in
/-- Pictures that came in. -/
theorem open_pics {H : Type} {enc : TypeId × Value → H} {W : World} {fuel : Nat} {ad : Option Addr} {n c : Nat} {d : DataW H} {q : List MemPlace} (h : DataW.trod enc Tryz.prog W 0 (fun _ => true) true fuel 55 [.slice ad n c] = some (d, q)) : Pix W ad n := by
  rcases DataW.trod_slice Tryz.underlying55 h with ⟨hcs, hx⟩ | ⟨a, len, cap, elems, rest, m, rfl, hcs, hx, _, hlc, hcm, hlen, hel, _, _⟩
  · simp only [List.cons.injEq, and_true, Value.slice.injEq] at hcs
    obtain ⟨rfl, rfl, rfl⟩ := hcs
    exact ⟨by omega, 0, 0, fun h => absurd h (by omega), fun i hi => absurd hi (by omega)⟩
  · simp only [List.cons.injEq, and_true, Value.slice.injEq] at hcs
    obtain ⟨rfl, rfl, rfl⟩ := hcs
    unfold maxLen at hcm
    have hsp : 0 < n → a.spot = none := fun h0 => by
      have hy : elems[0]? = some elems[0] := List.getElem?_eq_getElem (by omega)
      have hb := (hel 0 h0).trans hy
      rw [cellsP_pic, Option.bind_eq_some_iff] at hb
      obtain ⟨cs, hcs, _⟩ := hb
      obtain ⟨_, hcl, hcc⟩ := World.cells?_some hcs
      obtain ⟨c0, c1, c2, rfl⟩ := list3A hcl
      have g0 : W.cell? ((a.add (0 * 3)).add 0) = some c0 := hcc 0 (by omega)
      simpa [Addr.add] using World.cell?_spot g0
    have hone : ∀ (i : Nat), i < n → PicAt W a.block (a.off + i * 3) := fun i hi => by
      have hsp0 := hsp (by omega)
      have hy : elems[i]? = some elems[i] := List.getElem?_eq_getElem (by omega)
      have hb := (hel i hi).trans hy
      rw [cellsP_pic, Option.bind_eq_some_iff] at hb
      obtain ⟨cs, hcs, htr⟩ := hb
      obtain ⟨_, hcl, hcc⟩ := World.cells?_some hcs
      obtain ⟨c0, c1, c2, rfl⟩ := list3A hcl
      obtain ⟨xs, m3, hxe, hfe, _, hxl, hfs⟩ := DataW.trod_struct Tryz.underlying102 htr
      obtain ⟨y0, y1, y2, rfl⟩ := list3A (l := xs) hxl
      have f0 : DataW.trod enc Tryz.prog W 0 (fun _ => true) true m3 45 (([c0, c1, c2].drop 0).take (Tryz.prog.cellsOf 45)) = some y0 := hfs 0 _ rfl
      have f1 : DataW.trod enc Tryz.prog W 0 (fun _ => true) true m3 45 (([c0, c1, c2].drop 1).take (Tryz.prog.cellsOf 45)) = some y1 := hfs 1 _ rfl
      have f2 : DataW.trod enc Tryz.prog W 0 (fun _ => true) true m3 4 (([c0, c1, c2].drop 2).take (Tryz.prog.cellsOf 4)) = some y2 := hfs 2 _ rfl
      rw [cellsP_ints] at f0 f1
      rw [cellsP_bool] at f2
      replace f0 : DataW.trod enc Tryz.prog W 0 (fun _ => true) true m3 45 [c0] = some y0 := f0
      replace f1 : DataW.trod enc Tryz.prog W 0 (fun _ => true) true m3 45 [c1] = some y1 := f1
      replace f2 : DataW.trod enc Tryz.prog W 0 (fun _ => true) true m3 4 [c2] = some y2 := f2
      obtain ⟨a1, n1, k1, Z1, rfl, r1⟩ := open_raws f0
      obtain ⟨a2, n2, k2, Z2, rfl, r2⟩ := open_raws f1
      obtain ⟨g, e2, _⟩ := DataW.trod_bool Tryz.underlying4 f2
      obtain rfl : c2 = .bool g := by simpa using e2
      have g0 := hcc 0 (by omega)
      have g1 := hcc 1 (by omega)
      have g2 := hcc 2 (by omega)
      obtain ⟨b, off, spot⟩ := a
      have hspot : spot = none := hsp0
      subst hspot
      simp only [add_plain] at g0 g1 g2
      exact ⟨a1, a2, n1, k1, n2, k2, Z1, Z2, g, by simpa using g0, by simpa using g1, by simpa using g2, r1, r2⟩
    refine ⟨by omega, a.block, a.off, fun h0 => ?_, hone⟩
    have := hsp h0
    obtain ⟨b, off, spot⟩ := a
    have hspot : spot = none := this
    rw [hspot]
end Go.Proofs.YtaokifbpakbgdaaGreatDoor
