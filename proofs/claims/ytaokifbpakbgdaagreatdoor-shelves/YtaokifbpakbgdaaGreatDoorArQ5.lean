/-
  Package archive: the elements are held against what is demanded of them: isOfOtherKind, isNoValue, slices.IndexFunc and slices.ContainsFunc over them, checkElements.
-/
import Derived.Test.YtaokifbpakbgdaaGreatDoorArQ4
import Derived.Test.YtaokifbpakbgdaaGreatDoorValue3
import Derived.Test.YtaokifbpakbgdaaGreatDoorArE
namespace Go.Proofs.YtaokifbpakbgdaaGreatDoor
open Go.RowKit

def kindBad (d : Dm) : Bool := !(d.1 == d.2.2)
def valBad (d : Dm) : Bool := !(d.2.2 == SQ) && decide (chk d.2.2 d.2.1 ≠ 0)
/-- The value of a demand. -/
def dmV (d : Dm) (t : Int) (ad : Option Addr) (len cap : Nat) : Value := .agg #[.int .i64 t, .string (bs d.1), .string (bs d.2.1), .slice ad len cap, .string (bs d.2.2)]
theorem five_new (w : World) (T : TypeId) (c0 c1 c2 c3 c4 : Value) : (w.alloc (.cells #[c0, c1, c2, c3, c4] T)).heap[w.heap.size]? = some (.cells #[c0, c1, c2, c3, c4] T (0, 0)) := heap_alloc_new _ _
theorem isOfOtherKind_any (w : World) (d : Dm) (t : Int) (ad : Option Addr) (len cap : Nat) :
    Calls Tryz.prog 153 #[dmV d t ad len cap] w fun e w' => e = .returned (.bool (kindBad d)) ∧ Below w.heap.size w w' := by
  have e1 := bs_toList d.1
  have e2 := bs_toList d.2.2
  unfold dmV
  go_enter Tryz.func153, Tryz.ntmps153
  go_wp2
  go_ret
  exact ⟨rfl, Below.alloc (Below.refl _ _) (Nat.le_refl _) _⟩
set_option maxRecDepth 20000 in
theorem isNoValue_any (w : World) (d : Dm) (t : Int) (ad : Option Addr) (len cap : Nat) (hd : d.2.1.length ≤ 64) (hv : Vars w) :
    Calls Tryz.prog 154 #[dmV d t ad len cap] w fun e w' => e = .returned (.bool (valBad d)) ∧ Below w.heap.size w w' := by
  have e2 := bs_toList d.2.2
  have C := hid (fun (W : World) (h : Vars W) => Check_any (bs d.2.2) (bs d.2.1) W (by rw [bs_size]; omega) h)
  have U0 := hid (Below.alloc (Below.refl w.heap.size w) (Nat.le_refl _) (.cells #[.int .i64 t, .string (bs d.1), .string (bs d.2.1), .slice ad len cap, .string (bs d.2.2)] 187))
  have HV := hid hv
  clear hv
  unfold dmV valBad
  by_cases hs : d.2.2 = [83, 81]
  · have hb : (d.2.2 == [83, 81]) = true := by simpa using hs
    clear hs
    go_enter Tryz.func154, Tryz.ntmps154
    go_wp2
    go_ret
    exact ⟨ret_bool (by rw [hb]; rfl), U0.out⟩
  · have hb : (d.2.2 == [83, 81]) = false := by simpa using hs
    clear hs
    go_enter Tryz.func154, Tryz.ntmps154
    go_wp2_with fail
    go_at_call 13
    refine (C.out _ (HV.out.up U0.out)).mono ?_
    rintro e w2 ⟨rfl, u2⟩
    have U2 := hid (U0.out.trans (Below.mono u2 U0.out.size))
    clear u2 C
    change _ at U2
    go_wp2
    go_ret
    refine ⟨ret_bool ?_, U2.out⟩
    rw [hb, Bool.not_false, Bool.true_and]
    show (chk (bs d.2.2).data.toList (bs d.2.1).data.toList != 0) = decide (chk (bs d.2.2).data.toList (bs d.2.1).data.toList ≠ 0)
    by_cases h0 : chk (bs d.2.2).data.toList (bs d.2.1).data.toList = 0
    · rw [h0]; rfl
    · rw [decide_eq_true h0]; simpa using h0
theorem row_sl {w : World} {base : Nat} {e : TypeId} {k : Nat} {v : Value} {n : Nat} {xs : List Value} (h : w.ownsRow base e k v n xs) : ∃ ad cap, v = .slice ad n cap := by
  rcases h.2 with ⟨rfl, h1⟩ | ⟨g, cap, cur, rfl, _⟩
  · exact ⟨_, _, by rw [h1]⟩
  · exact ⟨_, _, rfl⟩
theorem demand_at {w : World} {base : Nat} {v : Value} {D : List Dm} {xs : List Value} (h : w.ownsRow base 187 5 v D.length xs) (hL : Ls 5 CpD xs D []) {k : Nat} (hk : k < D.length) :
    ∃ g cap t ad len cp, v = .slice (some ⟨g, 0, none⟩) D.length cap ∧ w.cell? ⟨g, k * 5, none⟩ = some (.int .i64 t) ∧ w.cell? ⟨g, k * 5 + 1, none⟩ = some (.string (bs D[k].1)) ∧ w.cell? ⟨g, k * 5 + 2, none⟩ = some (.string (bs D[k].2.1)) ∧
      w.cell? ⟨g, k * 5 + 3, none⟩ = some (.slice ad len cp) ∧ w.cell? ⟨g, k * 5 + 4, none⟩ = some (.string (bs D[k].2.2)) := by
  rcases id h.2 with ⟨_, h1⟩ | ⟨g, cap, cur, rfl, _⟩
  · omega
  · obtain ⟨c, b, ⟨_, t, ad, len, cp, rfl⟩, _, _, h4⟩ := hL.at k D[k] (List.getElem?_eq_getElem hk)
    have hb : k * 5 + 5 ≤ D.length * 5 := by omega
    have cc : ∀ j u, j < 5 → [Value.int .i64 t, .string (bs D[k].1), .string (bs D[k].2.1), .slice ad len cp, .string (bs D[k].2.2)][j]? = some u → w.cell? ⟨g, k * 5 + j, none⟩ = some u := fun j u hj hu => by
      rw [h.cellAt _ (by omega), Nat.mul_comm]
      exact h4 j u hu
    exact ⟨g, cap, t, ad, len, cp, rfl, cc 0 _ (by omega) rfl, cc 1 _ (by omega) rfl, cc 2 _ (by omega) rfl, cc 3 _ (by omega) rfl, cc 4 _ (by omega) rfl⟩
set_option maxRecDepth 20000 in
set_option maxHeartbeats 1000000 in
theorem indexK_any (w : World) (base : Nat) (v : Value) (D : List Dm) (xs : List Value) (ho : w.ownsRow base 187 5 v D.length xs) (hL : Ls 5 CpD xs D []) (hD : D.length ≤ 100000) :
    Calls Tryz.prog 215 #[v, .func (.func 153) #[] #[]] w fun e w' => (∃ i : Int, e = .returned (.int .i64 i) ∧ decide (0 ≤ i) = D.any kindBad) ∧ Below w.heap.size w w' := by
  obtain ⟨ad, cap, rfl⟩ := row_sl ho
  have HO := hid ho
  have HL := hid hL
  skip
  clear ho hL
  go_enter Tryz.func215, Tryz.ntmps215
  go_wp2_with fail
  go_loopw [8] (fun i wr => ∃ k : Nat, k ≤ D.length ∧ i = .int .i64 k ∧ Hid (D.any kindBad = (D.drop k).any kindBad) ∧ Hid (Below w.heap.size w wr)) (fun i _ => D.length - (intOf i).toNat)
  case atStart => exact ⟨0, Nat.zero_le _, rfl, rfl, Below.refl _ _⟩
  case round =>
    obtain ⟨k, hk, rfl, hsp, hU⟩ := hrel
    by_cases hkl : k < D.length
    · obtain ⟨g, cap2, t, ad2, len, cp, hv, c0, c1, c2, c3, c4⟩ := demand_at (ownsRow_keep HO.out (w' := wr) (fun j hj => hU.out.block j (ownsRow_lt HO.out j hj))) HL.out hkl
      obtain ⟨rfl, _, rfl⟩ := Value.slice.inj hv
      have hst := hid (show (D.drop k).any kindBad = (kindBad D[k] || (D.drop (k + 1)).any kindBad) by rw [List.drop_eq_getElem_cons hkl, List.any_cons])
      have hmem := hid (List.getElem_mem hkl)
      clear hv
      generalize D[k] = d at c1 c2 c4 hst hmem
      go_wp2_with fail
      go_at_call 153
      refine (isOfOtherKind_any wr d t ad2 len cp).mono ?_
      rintro e w2 ⟨rfl, u2⟩
      have U2 := hid (hU.out.trans (u2.mono hU.out.size))
      clear u2
      generalize hbb : kindBad d = bb at hst
      clear hbb
      cases bb
      · have hst2 := hid (hsp.out.trans (hst.out.trans (Bool.false_or _)))
        clear hst
        go_wp2
        go_roundw
        case rel => exact ⟨k + 1, by omega, by go_num, hst2, U2⟩
        case measure => simp [intOf]; omega
      · have hF := hid (show D.any kindBad = true by rw [hsp.out, hst.out, Bool.true_or])
        clear hst
        go_wp2
        go_ret
        exact ⟨⟨_, rfl, by rw [hF.out]; simp⟩, U2.out⟩
    · have hF := hid (show D.any kindBad = false by rw [hsp.out, List.drop_eq_nil_of_le (by omega)]; rfl)
      go_wp2
      go_ret
      exact ⟨⟨-1, rfl, by rw [hF.out]; rfl⟩, hU.out⟩
theorem containsK_any (w : World) (base : Nat) (v : Value) (D : List Dm) (xs : List Value) (ho : w.ownsRow base 187 5 v D.length xs) (hL : Ls 5 CpD xs D []) (hD : D.length ≤ 100000) :
    Calls Tryz.prog 152 #[v, .func (.func 153) #[] #[]] w fun e w' => e = .returned (.bool (D.any kindBad)) ∧ Below w.heap.size w w' := by
  have c1 := hid (indexK_any w base v D xs ho hL hD)
  clear ho hL
  go_enter Tryz.func152, Tryz.ntmps152
  go_wp2_with fail
  go_at_call 215
  refine c1.out.mono ?_
  rintro e w2 ⟨⟨i, rfl, hi⟩, u2⟩
  have U2 := hid u2
  have HI := hid hi
  clear u2 c1 hi
  go_wp2
  go_ret
  exact ⟨ret_bool HI.out, U2.out⟩
set_option maxRecDepth 20000 in
set_option maxHeartbeats 1000000 in
theorem indexV_any (w : World) (base : Nat) (v : Value) (D : List Dm) (xs : List Value) (ho : w.ownsRow base 187 5 v D.length xs) (hL : Ls 5 CpD xs D []) (hD : D.length ≤ 100000) (hv : ∀ d ∈ D, d.2.1.length ≤ 64) (hV : Vars w) :
    Calls Tryz.prog 215 #[v, .func (.func 154) #[] #[]] w fun e w' => (∃ i : Int, e = .returned (.int .i64 i) ∧ decide (0 ≤ i) = D.any valBad) ∧ Below w.heap.size w w' := by
  obtain ⟨ad, cap, rfl⟩ := row_sl ho
  have HO := hid ho
  have HL := hid hL
  have HV := hid hv
  have HW := hid hV
  clear hv hV
  clear ho hL
  go_enter Tryz.func215, Tryz.ntmps215
  go_wp2_with fail
  go_loopw [8] (fun i wr => ∃ k : Nat, k ≤ D.length ∧ i = .int .i64 k ∧ Hid (D.any valBad = (D.drop k).any valBad) ∧ Hid (Below w.heap.size w wr)) (fun i _ => D.length - (intOf i).toNat)
  case atStart => exact ⟨0, Nat.zero_le _, rfl, rfl, Below.refl _ _⟩
  case round =>
    obtain ⟨k, hk, rfl, hsp, hU⟩ := hrel
    by_cases hkl : k < D.length
    · obtain ⟨g, cap2, t, ad2, len, cp, hv, c0, c1, c2, c3, c4⟩ := demand_at (ownsRow_keep HO.out (w' := wr) (fun j hj => hU.out.block j (ownsRow_lt HO.out j hj))) HL.out hkl
      obtain ⟨rfl, _, rfl⟩ := Value.slice.inj hv
      have hst := hid (show (D.drop k).any valBad = (valBad D[k] || (D.drop (k + 1)).any valBad) by rw [List.drop_eq_getElem_cons hkl, List.any_cons])
      have hmem := hid (List.getElem_mem hkl)
      clear hv
      generalize D[k] = d at c1 c2 c4 hst hmem
      go_wp2_with fail
      go_at_call 154
      refine (isNoValue_any wr d t ad2 len cp (HV.out d hmem.out) (HW.out.up hU.out)).mono ?_
      rintro e w2 ⟨rfl, u2⟩
      have U2 := hid (hU.out.trans (u2.mono hU.out.size))
      clear u2
      generalize hbb : valBad d = bb at hst
      clear hbb
      cases bb
      · have hst2 := hid (hsp.out.trans (hst.out.trans (Bool.false_or _)))
        clear hst
        go_wp2
        go_roundw
        case rel => exact ⟨k + 1, by omega, by go_num, hst2, U2⟩
        case measure => simp [intOf]; omega
      · have hF := hid (show D.any valBad = true by rw [hsp.out, hst.out, Bool.true_or])
        clear hst
        go_wp2
        go_ret
        exact ⟨⟨_, rfl, by rw [hF.out]; simp⟩, U2.out⟩
    · have hF := hid (show D.any valBad = false by rw [hsp.out, List.drop_eq_nil_of_le (by omega)]; rfl)
      go_wp2
      go_ret
      exact ⟨⟨-1, rfl, by rw [hF.out]; rfl⟩, hU.out⟩
theorem containsV_any (w : World) (base : Nat) (v : Value) (D : List Dm) (xs : List Value) (ho : w.ownsRow base 187 5 v D.length xs) (hL : Ls 5 CpD xs D []) (hD : D.length ≤ 100000) (hv : ∀ d ∈ D, d.2.1.length ≤ 64) (hV : Vars w) :
    Calls Tryz.prog 152 #[v, .func (.func 154) #[] #[]] w fun e w' => e = .returned (.bool (D.any valBad)) ∧ Below w.heap.size w w' := by
  have c1 := hid (indexV_any w base v D xs ho hL hD hv hV)
  clear ho hL
  go_enter Tryz.func152, Tryz.ntmps152
  go_wp2_with fail
  go_at_call 215
  refine c1.out.mono ?_
  rintro e w2 ⟨⟨i, rfl, hi⟩, u2⟩
  have U2 := hid u2
  have HI := hid hi
  clear u2 c1 hi
  go_wp2
  go_ret
  exact ⟨ret_bool HI.out, U2.out⟩
end Go.Proofs.YtaokifbpakbgdaaGreatDoor
