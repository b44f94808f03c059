/-
  Package folioref on archives, from its leaves up: Kind, find, Text.
-/
import Derived.Test.YtaokifbpakbgdaaGreatDoorArP
import Derived.Test.YtaokifbpakbgdaaGreatDoorRec4
namespace Go.Proofs.YtaokifbpakbgdaaGreatDoor
open Go.RowKit

theorem rKind_any (w : World) (t : Int) : Calls Tryz.prog 161 #[.int .i64 t] w fun e w' => e = .returned (.string (bs (kindT t))) ∧ w' = w := by
  go_enter Tryz.func161, Tryz.ntmps161
  go_wp2
  all_goals go_ret
  all_goals refine ⟨?_, rfl⟩
  all_goals simp_all [kindT, bs]
/-- The value of an element, of an empty one. -/
def elV {n : Nat} (x : El (n + 1)) (iv : Value) : Value := .agg #[.int .i64 x.1, .string (bs x.2.1), .string (bs x.2.2.1), iv]
def zeroE : Value := .agg #[.int .i64 0, .string ⟨#[]⟩, .string ⟨#[]⟩, .slice none 0 0]
abbrev zeroB : Obj := .cells #[.int .i64 0, .string ⟨#[]⟩, .string ⟨#[]⟩, .slice none 0 0] 73
/-- How the look for a tag ends. -/
def FindEnd (n : Nat) (F : Nat → Prop) (w : World) (l : List (El (n + 1))) (t : Int) (e : Ending) (w' : World) : Prop := Below w.heap.size w w' ∧
  ((findE l t = none ∧ e = .returned (.tuple #[zeroE, .bool false])) ∨ ∃ x iv, findE l t = some x ∧ e = .returned (.tuple #[elV x iv, .bool true]) ∧ RdI w F n iv x.2.2.2)
theorem findE_drop {n : Nat} {l : List (El (n + 1))} {k : Nat} (h : k < l.length) (t : Int) : findE (l.drop k) t = if l[k].1 = t then some l[k] else findE (l.drop (k + 1)) t := by
  rw [List.drop_eq_getElem_cons h]
  unfold findE
  rw [List.find?_cons]
  by_cases e : l[k].1 = t
  · rw [decide_eq_true e, if_pos e]
  · rw [decide_eq_false e, if_neg e]
theorem rfind_any (n : Nat) (F : Nat → Prop) (w : World) (v : Value) (l : List (El (n + 1))) (t : Int) (h : Rd w F (n + 1) v l) (hl : l.length ≤ 24) :
    Calls Tryz.prog 220 #[v, .int .i64 t] w (FindEnd n F w l t) := by
  obtain ⟨ad, cap, rfl⟩ := h.slice
  go_enter Tryz.func220, Tryz.ntmps220
  go_wp2_with fail
  go_loopw [6] (fun i wr => ∃ k : Nat, k ≤ l.length ∧ i = .int .i64 k ∧ Hid (Four wr w.heap.size (.int .i64 0) (.string ⟨#[]⟩) (.string ⟨#[]⟩) (.slice none 0 0)) ∧ Hid (Below w.heap.size w wr) ∧ Hid (findE l t = findE (l.drop k) t)) (fun i _ => l.length - (intOf i).toNat)
  case atStart => exact ⟨0, Nat.zero_le _, rfl, Four.new w _ _ _ _, Below.alloc (Below.refl _ _) (Nat.le_refl _) _, rfl⟩
  case round =>
    obtain ⟨k, hk, rfl, hR, hU, hsp⟩ := hrel
    obtain ⟨⟨r0, r1, r2, r3⟩, s0, s1, s2, s3⟩ := hR.out.cells
    by_cases hkl : k < l.length
    · have hrd' := hid (h.at (List.getElem?_eq_getElem hkl))
      obtain ⟨a, ad2, cap2, rfl, _, d0, d1, d2, d3, hrd⟩ := hrd'.out
      have c0 := hU.out.cell (World.block_lt_of_cell? _ _ d0) |>.trans d0
      have c1 := hU.out.cell (World.block_lt_of_cell? _ _ d1) |>.trans d1
      have c2 := hU.out.cell (World.block_lt_of_cell? _ _ d2) |>.trans d2
      have c3 := hU.out.cell (World.block_lt_of_cell? _ _ d3) |>.trans d3
      have hrd2 := hid hrd
      have hst := hid (findE_drop hkl t)
      clear hrd hrd' d0 d1 d2 d3
      generalize l[k] = x at c0 c1 c2 c3 hrd2 hst
      by_cases ht : x.1 = t
      · have hd : (x.1 == t) = true := by simpa using ht
        have hF := hid (show findE l t = some x by rw [hsp.out, hst.out, if_pos ht])
        clear ht
        go_wp2
        (try simp only [Exit.inBlock, Exit.then])
        refine bodyPost_ret (v := .tuple #[elV x (.slice ad2 x.2.2.2.length cap2), .bool true]) (by simp [results, Tryz.results220, go_sem, r0, r1, r2, r3, elV]) rfl ?_
        exact ⟨(((hU.out.setCell (Nat.le_refl _) _).setCell (Nat.le_refl _) _).setCell (Nat.le_refl _) _).setCell (Nat.le_refl _) _, Or.inr ⟨x, _, hF.out, rfl, hrd2.out⟩⟩
      · have hd : (x.1 == t) = false := by simpa using ht
        have hF := hid (show findE l t = findE (l.drop (k + 1)) t by rw [hsp.out, hst.out, if_neg ht])
        clear ht
        go_wp2
        go_roundw
        case rel => exact ⟨k + 1, by omega, by go_num, hR, hU, hF⟩
        case measure => simp [intOf]; omega
    · have hF := hid (show findE l t = none by rw [hsp.out, List.drop_eq_nil_of_le (by omega)]; rfl)
      go_wp2
      (try simp only [Exit.inBlock, Exit.then])
      refine bodyPost_ret (v := .tuple #[zeroE, .bool false]) (by simp [results, Tryz.results220, go_sem, r0, r1, r2, r3, zeroE]) rfl ?_
      exact ⟨(((hU.out.setCell (Nat.le_refl _) _).setCell (Nat.le_refl _) _).setCell (Nat.le_refl _) _).setCell (Nat.le_refl _) _, Or.inl ⟨hF.out, rfl⟩⟩
theorem rText_any (n : Nat) (F : Nat → Prop) (w : World) (v : Value) (l : List (El (n + 1))) (t : Int) (h : Rd w F (n + 1) v l) (hl : l.length ≤ 24) :
    Calls Tryz.prog 164 #[v, .int .i64 t] w fun e w' => e = .returned (.string (bs (textE l t))) ∧ Below w.heap.size w w' := by
  go_enter Tryz.func164, Tryz.ntmps164
  go_wp2_with fail
  go_at_call 220
  refine (rfind_any n F w v l t h hl).mono ?_
  rintro e w1 ⟨u1, ⟨h1, rfl⟩ | ⟨x, iv, h1, rfl, hi⟩⟩
  · have u1' := hid u1
    have h1' := hid h1
    clear u1 h1
    simp only [zeroE]
    go_wp2
    go_ret
    exact ⟨by rw [textE, h1'.out]; rfl, Below.alloc u1'.out u1'.out.size _⟩
  · obtain ⟨ad2, cap2, rfl⟩ := hi.slice
    have u1' := hid u1
    have h1' := hid h1
    clear u1 h1 hi
    simp only [elV]
    go_wp2
    go_ret
    exact ⟨by rw [textE, h1'.out]; rfl, Below.alloc u1'.out u1'.out.size _⟩
end Go.Proofs.YtaokifbpakbgdaaGreatDoor
