/-
  Several texts in one; what each one has stands at its head.
-/
import Derived.Test.YtaokifbpakbgdaaGreatDoorPut4
import Derived.Test.YtaokifbpakbgdaaGreatDoorPut6
import Derived.Deep.QuietTactic
import Derived.BigQuiet
/- Package folioref on archives, from its leaves up: Kind, find, Text. -/
namespace Go.Proofs.YtaokifbpakbgdaaGreatDoor
open Go.RowKit

theorem rKind_any (w : World) (t : Int) : Calls Tryz.prog 161 #[.int .i64 t] w fun e w' => e = .returned (.string (bs (kindT t))) ∧ w' = w := by
  go_enter Tryz.func161, Tryz.ntmps161
  go_wp2
  all_goals go_ret
  all_goals refine ⟨?_, rfl⟩
  all_goals simp_all [kindT, bs]
/-- The value of an element, of an empty one. -/
def elV {n : Nat} (x : El (n + 1)) (iv : Value) : Value := .agg #[.int .i64 x.1, .string (bs x.2.1), .string (bs x.2.2.1), iv]
def zeroE : Value := .agg #[.int .i64 0, .string ⟨#[]⟩, .string ⟨#[]⟩, .slice none 0 0]
abbrev zeroB : Obj := .cells #[.int .i64 0, .string ⟨#[]⟩, .string ⟨#[]⟩, .slice none 0 0] 73
/-- How the look for a tag ends. -/
def FindEnd (n : Nat) (F : Nat → Prop) (w : World) (l : List (El (n + 1))) (t : Int) (e : Ending) (w' : World) : Prop := Below w.heap.size w w' ∧
  ((findE l t = none ∧ e = .returned (.tuple #[zeroE, .bool false])) ∨ ∃ x iv, findE l t = some x ∧ e = .returned (.tuple #[elV x iv, .bool true]) ∧ RdI w F n iv x.2.2.2)
theorem findE_drop {n : Nat} {l : List (El (n + 1))} {k : Nat} (h : k < l.length) (t : Int) : findE (l.drop k) t = if l[k].1 = t then some l[k] else findE (l.drop (k + 1)) t := by
  rw [List.drop_eq_getElem_cons h]
  unfold findE
  rw [List.find?_cons]
  by_cases e : l[k].1 = t
  · rw [decide_eq_true e, if_pos e]
  · rw [decide_eq_false e, if_neg e]
theorem rfind_any (n : Nat) (F : Nat → Prop) (w : World) (v : Value) (l : List (El (n + 1))) (t : Int) (h : Rd w F (n + 1) v l) (hl : l.length ≤ 24) :
    Calls Tryz.prog 220 #[v, .int .i64 t] w (FindEnd n F w l t) := by
  obtain ⟨ad, cap, rfl⟩ := h.slice
  go_enter Tryz.func220, Tryz.ntmps220
  go_wp2_with fail
  go_loopw [6] (fun i wr => ∃ k : Nat, k ≤ l.length ∧ i = .int .i64 k ∧ Hid (Four wr w.heap.size (.int .i64 0) (.string ⟨#[]⟩) (.string ⟨#[]⟩) (.slice none 0 0)) ∧ Hid (Below w.heap.size w wr) ∧ Hid (findE l t = findE (l.drop k) t)) (fun i _ => l.length - (intOf i).toNat)
  case atStart => exact ⟨0, Nat.zero_le _, rfl, Four.new w _ _ _ _, Below.alloc (Below.refl _ _) (Nat.le_refl _) _, rfl⟩
  case round =>
    obtain ⟨k, hk, rfl, hR, hU, hsp⟩ := hrel
    obtain ⟨⟨r0, r1, r2, r3⟩, s0, s1, s2, s3⟩ := hR.out.cells
    by_cases hkl : k < l.length
    · have hrd' := hid (h.at (List.getElem?_eq_getElem hkl))
      obtain ⟨a, ad2, cap2, rfl, _, d0, d1, d2, d3, hrd⟩ := hrd'.out
      have c0 := hU.out.cell (World.block_lt_of_cell? _ _ d0) |>.trans d0
      have c1 := hU.out.cell (World.block_lt_of_cell? _ _ d1) |>.trans d1
      have c2 := hU.out.cell (World.block_lt_of_cell? _ _ d2) |>.trans d2
      have c3 := hU.out.cell (World.block_lt_of_cell? _ _ d3) |>.trans d3
      have hrd2 := hid hrd
      have hst := hid (findE_drop hkl t)
      clear hrd hrd' d0 d1 d2 d3
      generalize l[k] = x at c0 c1 c2 c3 hrd2 hst
      by_cases ht : x.1 = t
      · have hd : (x.1 == t) = true := by simpa using ht
        have hF := hid (show findE l t = some x by rw [hsp.out, hst.out, if_pos ht])
        clear ht
        go_wp2
        (try simp only [Exit.inBlock, Exit.then])
        refine bodyPost_ret (v := .tuple #[elV x (.slice ad2 x.2.2.2.length cap2), .bool true]) (by simp [results, Tryz.results220, go_sem, r0, r1, r2, r3, elV]) rfl ?_
        exact ⟨(((hU.out.setCell (Nat.le_refl _) _).setCell (Nat.le_refl _) _).setCell (Nat.le_refl _) _).setCell (Nat.le_refl _) _, Or.inr ⟨x, _, hF.out, rfl, hrd2.out⟩⟩
      · have hd : (x.1 == t) = false := by simpa using ht
        have hF := hid (show findE l t = findE (l.drop (k + 1)) t by rw [hsp.out, hst.out, if_neg ht])
        clear ht
        go_wp2
        go_roundw
        case rel => exact ⟨k + 1, by omega, by go_num, hR, hU, hF⟩
        case measure => simp [intOf]; omega
    · have hF := hid (show findE l t = none by rw [hsp.out, List.drop_eq_nil_of_le (by omega)]; rfl)
      go_wp2
      (try simp only [Exit.inBlock, Exit.then])
      refine bodyPost_ret (v := .tuple #[zeroE, .bool false]) (by simp [results, Tryz.results220, go_sem, r0, r1, r2, r3, zeroE]) rfl ?_
      exact ⟨(((hU.out.setCell (Nat.le_refl _) _).setCell (Nat.le_refl _) _).setCell (Nat.le_refl _) _).setCell (Nat.le_refl _) _, Or.inl ⟨hF.out, rfl⟩⟩
theorem rText_any (n : Nat) (F : Nat → Prop) (w : World) (v : Value) (l : List (El (n + 1))) (t : Int) (h : Rd w F (n + 1) v l) (hl : l.length ≤ 24) :
    Calls Tryz.prog 164 #[v, .int .i64 t] w fun e w' => e = .returned (.string (bs (textE l t))) ∧ Below w.heap.size w w' := by
  go_enter Tryz.func164, Tryz.ntmps164
  go_wp2_with fail
  go_at_call 220
  refine (rfind_any n F w v l t h hl).mono ?_
  rintro e w1 ⟨u1, ⟨h1, rfl⟩ | ⟨x, iv, h1, rfl, hi⟩⟩
  · have u1' := hid u1
    have h1' := hid h1
    clear u1 h1
    simp only [zeroE]
    go_wp2
    go_ret
    exact ⟨by rw [textE, h1'.out]; rfl, Below.alloc u1'.out u1'.out.size _⟩
  · obtain ⟨ad2, cap2, rfl⟩ := hi.slice
    have u1' := hid u1
    have h1' := hid h1
    clear u1 h1 hi
    simp only [elV]
    go_wp2
    go_ret
    exact ⟨by rw [textE, h1'.out]; rfl, Below.alloc u1'.out u1'.out.size _⟩
end Go.Proofs.YtaokifbpakbgdaaGreatDoor

/- Package folioref on archives: Rows, names. -/
namespace Go.Proofs.YtaokifbpakbgdaaGreatDoor
open Go.RowKit

/-- The words of the levels, the tags of a level, the tags of the counts. -/
def wordL (i : Nat) : By := if i = 0 then [80, 65, 84, 73, 69, 78, 84] else if i = 1 then [83, 84, 85, 68, 89] else if i = 2 then [83, 69, 82, 73, 69, 83] else [73, 77, 65, 71, 69]
def tagsL (i : Nat) : List Int := if i = 0 then [1048608, 1048592, 1048624] else if i = 1 then [2097165, 524320, 524336, 524368] else if i = 2 then [2097166, 524384, 2097169] else [524312, 2097171, 533016]
def cntT (i : Nat) : Int := if i = 0 then 2101760 else if i = 1 then 2101766 else if i = 2 then 2101769 else -1
/-- The table in memory. -/
def RowsAt (w : World) (b : Nat) : Prop := ∀ i, i < 4 → ∃ c, w.cell? ⟨b, i * 3, none⟩ = some (.string (bs (wordL i))) ∧ w.cell? ⟨b, i * 3 + 1, none⟩ = some (.slice (some ⟨c, 0, none⟩) (tagsL i).length (tagsL i).length) ∧ w.cell? ⟨b, i * 3 + 2, none⟩ = some (.int .i64 (cntT i)) ∧ ∀ j t, (tagsL i)[j]? = some t → w.cell? ⟨c, j, none⟩ = some (.int .i64 t)
theorem RowsAt.up {w w' : World} {b : Nat} (h : RowsAt w b) (k : Below w.heap.size w w') : RowsAt w' b := fun i hi => by
  have up : ∀ {p : Addr} {v : Value}, w.cell? p = some v → w'.cell? p = some v := fun hc => (k.cell (World.block_lt_of_cell? _ _ hc)).trans hc
  obtain ⟨c, h1, h2, h3, h4⟩ := h i hi
  exact ⟨c, up h1, up h2, up h3, fun j t ht => up (h4 j t ht)⟩
theorem five_at (w : World) (o0 o1 o2 o3 o4 : Obj) : (((((w.alloc o0).alloc o1).alloc o2).alloc o3).alloc o4).heap[w.heap.size]? = some o0 ∧ (((((w.alloc o0).alloc o1).alloc o2).alloc o3).alloc o4).heap[w.heap.size + 1]? = some o1 ∧
    (((((w.alloc o0).alloc o1).alloc o2).alloc o3).alloc o4).heap[w.heap.size + 1 + 1]? = some o2 ∧ (((((w.alloc o0).alloc o1).alloc o2).alloc o3).alloc o4).heap[w.heap.size + 1 + 1 + 1]? = some o3 ∧ (((((w.alloc o0).alloc o1).alloc o2).alloc o3).alloc o4).heap[w.heap.size + 1 + 1 + 1 + 1]? = some o4 := by
  have n : ∀ (A : World) (o : Obj) (k : Nat), k = A.heap.size → (A.alloc o).heap[k]? = some o := fun A o k h => by subst h; exact heap_alloc_new _ _
  have s : ∀ (A : World) (o : Obj) (k : Nat), k < A.heap.size → (A.alloc o).heap[k]? = A.heap[k]? := fun A o k h => Below.heap_alloc A o k h
  refine ⟨?_, ?_, ?_, ?_, ?_⟩
  · rw [s _ _ _ (by simp only [World.size_alloc]; omega), s _ _ _ (by simp only [World.size_alloc]; omega), s _ _ _ (by simp only [World.size_alloc]; omega), s _ _ _ (by simp)]; exact n _ _ _ rfl
  · rw [s _ _ _ (by simp only [World.size_alloc]; omega), s _ _ _ (by simp only [World.size_alloc]; omega), s _ _ _ (by simp)]; exact n _ _ _ (by simp)
  · rw [s _ _ _ (by simp only [World.size_alloc]; omega), s _ _ _ (by simp)]; exact n _ _ _ (by simp)
  · rw [s _ _ _ (by simp)]; exact n _ _ _ (by simp)
  · exact n _ _ _ (by simp)
theorem rows_at {W : World} {s : Nat} (b0 : W.heap[s]? = some (.cells #[.int .i64 1048608, .int .i64 1048592, .int .i64 1048624] 3 (0, 0))) (b1 : W.heap[s + 1]? = some (.cells #[.int .i64 2097165, .int .i64 524320, .int .i64 524336, .int .i64 524368] 3 (0, 0))) (b2 : W.heap[s + 1 + 1]? = some (.cells #[.int .i64 2097166, .int .i64 524384, .int .i64 2097169] 3 (0, 0))) (b3 : W.heap[s + 1 + 1 + 1]? = some (.cells #[.int .i64 524312, .int .i64 2097171, .int .i64 533016] 3 (0, 0))) (b4 : W.heap[s + 1 + 1 + 1 + 1]? = some (.cells #[.string ⟨#[80, 65, 84, 73, 69, 78, 84]⟩, .slice (some ⟨s, 0, none⟩) 3 3, .int .i64 2101760, .string ⟨#[83, 84, 85, 68, 89]⟩, .slice (some ⟨s + 1, 0, none⟩) 4 4, .int .i64 2101766, .string ⟨#[83, 69, 82, 73, 69, 83]⟩, .slice (some ⟨s + 1 + 1, 0, none⟩) 3 3, .int .i64 2101769, .string ⟨#[73, 77, 65, 71, 69]⟩, .slice (some ⟨s + 1 + 1 + 1, 0, none⟩) 3 3, .int .i64 (-1)] 197 (0, 0))) : RowsAt W (s + 1 + 1 + 1 + 1) := fun i hi => by
  rcases (show i = 0 ∨ i = 1 ∨ i = 2 ∨ i = 3 by omega) with rfl | rfl | rfl | rfl
  · refine ⟨s, by simp [wordL, bs, World.cell?, b4], by simp [tagsL, World.cell?, b4], by simp [cntT, World.cell?, b4], fun j t hj => ?_⟩
    match j, hj with
    | 0, hj | 1, hj | 2, hj => simp [tagsL] at hj; subst hj; simp [World.cell?, b0]
    | j + 3, hj => simp [tagsL] at hj
  · refine ⟨s + 1, by simp [wordL, bs, World.cell?, b4], by simp [tagsL, World.cell?, b4], by simp [cntT, World.cell?, b4], fun j t hj => ?_⟩
    match j, hj with
    | 0, hj | 1, hj | 2, hj | 3, hj => simp [tagsL] at hj; subst hj; simp [World.cell?, b1]
    | j + 4, hj => simp [tagsL] at hj
  · refine ⟨s + 1 + 1, by simp [wordL, bs, World.cell?, b4], by simp [tagsL, World.cell?, b4], by simp [cntT, World.cell?, b4], fun j t hj => ?_⟩
    match j, hj with
    | 0, hj | 1, hj | 2, hj => simp [tagsL] at hj; subst hj; simp [World.cell?, b2]
    | j + 3, hj => simp [tagsL] at hj
  · refine ⟨s + 1 + 1 + 1, by simp [wordL, bs, World.cell?, b4], by simp [tagsL, World.cell?, b4], by simp [cntT, World.cell?, b4], fun j t hj => ?_⟩
    match j, hj with
    | 0, hj | 1, hj | 2, hj => simp [tagsL] at hj; subst hj; simp [World.cell?, b3]
    | j + 3, hj => simp [tagsL] at hj
theorem rRows_any (w : World) : Calls Tryz.prog 163 #[] w fun e w' => ∃ b, e = .returned (.slice (some ⟨b, 0, none⟩) 4 4) ∧ RowsAt w' b ∧ Below w.heap.size w w' := by
  go_enter Tryz.func163, Tryz.ntmps163
  go_wp2
  go_ret
  refine ⟨_, rfl, ?_, ?_⟩
  · obtain ⟨b0, b1, b2, b3, b4⟩ := five_at w (.cells #[.int .i64 1048608, .int .i64 1048592, .int .i64 1048624] 3) (.cells #[.int .i64 2097165, .int .i64 524320, .int .i64 524336, .int .i64 524368] 3) (.cells #[.int .i64 2097166, .int .i64 524384, .int .i64 2097169] 3) (.cells #[.int .i64 524312, .int .i64 2097171, .int .i64 533016] 3)
      (.cells #[.string ⟨#[80, 65, 84, 73, 69, 78, 84]⟩, .slice (some ⟨w.heap.size, 0, none⟩) 3 3, .int .i64 2101760, .string ⟨#[83, 84, 85, 68, 89]⟩, .slice (some ⟨w.heap.size + 1, 0, none⟩) 4 4, .int .i64 2101766, .string ⟨#[83, 69, 82, 73, 69, 83]⟩, .slice (some ⟨w.heap.size + 1 + 1, 0, none⟩) 3 3, .int .i64 2101769, .string ⟨#[73, 77, 65, 71, 69]⟩, .slice (some ⟨w.heap.size + 1 + 1 + 1, 0, none⟩) 3 3, .int .i64 (-1)] 197)
    exact rows_at b0 b1 b2 b3 b4
  · exact ((((Below.alloc (Below.refl _ _) (Nat.le_refl _) _).alloc (by simp) _).alloc (by simp; omega) _).alloc (by simp; omega) _).alloc (by simp; omega) _
/-- The four names in memory. -/
def NmsAt {n : Nat} (w : World) (g : Nat) (l : List (El (n + 1))) : Prop := ∀ i, i < 4 → w.cell? ⟨g, i, none⟩ = some (.string (bs (nm i l)))
theorem NmsAt.up {n : Nat} {w w' : World} {g : Nat} {l : List (El (n + 1))} (h : NmsAt w g l) (k : Below w.heap.size w w') : NmsAt w' g l := fun i hi => (k.cell (World.block_lt_of_cell? _ _ (h i hi))).trans (h i hi)
theorem info_str : (Tryz.prog.info? 9).map (fun i => (i.zero, i.size, i.bytes)) = some (some (.string ByteArray.empty), 1, 16) := by kernel_rfl
theorem up_grow {w wr w2 : World} {e : TypeId} {k : Nat} {v : Value} {n : Nat} {xs : List Value} (hU : Below w.heap.size w wr) (hown : wr.ownsRow w.heap.size e k v n xs) (o : Obj) (hg : (wr.alloc o).grownBy w2 v.ownBlock) : Below w.heap.size w w2 :=
  Below.grown (Below.alloc hU hU.size o) hg (Nat.le_trans hU.size (by simp)) (fun k hk => ((hown.alloc o).lt k hk).1)
theorem one_at (w : World) (T : TypeId) (c0 : Value) : ∀ j u, [c0][j]? = some u → (w.alloc (.cells #[c0] T)).cell? ((⟨w.heap.size, 0, none⟩ : Addr).add j) = some u := by
  intro j u hj
  rw [Addr.add_lit]
  match j, hj with
  | 0, hj => simp at hj; subst hj; simp
  | j + 1, hj => simp at hj
def nmV {n : Nat} (l : List (El (n + 1))) (i : Nat) : Value := .string (bs (nm i l))
set_option maxRecDepth 20000 in
theorem rnames_any (n : Nat) (F : Nat → Prop) (w : World) (v : Value) (l : List (El (n + 1))) (h : Rd w F (n + 1) v l) (hl : l.length ≤ 24) :
    Calls Tryz.prog 100 #[v] w fun e w' => ∃ g cap, e = .returned (.slice (some ⟨g, 0, none⟩) 4 cap) ∧ w.heap.size ≤ g ∧ NmsAt w' g l ∧ Below w.heap.size w w' := by
  obtain ⟨i0, hi0, hz0, hz1, hz2⟩ := info_parts info_str
  have HI := hid hi0
  clear hi0
  have H := hid h
  clear h
  go_enter Tryz.func100, Tryz.ntmps100
  go_wp2_with fail
  go_at_call 163
  refine (rRows_any w).mono ?_
  rintro e w1 ⟨b, rfl, hr, u1⟩
  have U1 := hid u1
  have R1 := hid hr
  clear u1 hr
  go_wp2_with fail
  go_loopw [3, 5] (fun o i wr => ∃ k : Nat, k ≤ 4 ∧ i = .int .i64 k ∧ Hid (wr.ownsRow w1.heap.size 9 1 o k ((List.range k).map (nmV l))) ∧ Hid (Below w1.heap.size w1 wr)) (fun _ i _ => 4 - (intOf i).toNat)
  case atStart => exact ⟨0, by omega, rfl, World.ownsRow_nil _ _ _ _, Below.refl _ _⟩
  case round =>
    obtain ⟨k, hk, rfl, hown, hU⟩ := hrel
    by_cases hkl : k < 4
    · obtain ⟨c, _, c1, _, c2⟩ := (R1.out.up hU.out) k hkl
      have c3 := c2 0 (nameT k) (by rcases (show k = 0 ∨ k = 1 ∨ k = 2 ∨ k = 3 by omega) with rfl | rfl | rfl | rfl <;> rfl)
      have c4 : 0 < (tagsL k).length := by rcases (show k = 0 ∨ k = 1 ∨ k = 2 ∨ k = 3 by omega) with rfl | rfl | rfl | rfl <;> decide
      clear c2
      generalize (tagsL k).length = m at c1 c4
      go_wp2_with fail
      go_at_call 164
      refine (rText_any n F wr v l (nameT k) (H.out.up (U1.out.trans (hU.out.mono U1.out.size))) hl).mono ?_
      rintro e w2 ⟨rfl, u2⟩
      have hown2 := hid (ownsRow_keep hown.out (w' := w2) (fun j hj => u2.block j (ownsRow_lt hown.out j hj)))
      have U2 := hid (hU.out.trans (u2.mono hU.out.size))
      clear u2 c1 c3 c4
      go_wp2_with (at_builtin; refine wpList_append_own _ rfl _ _ 70 rfl w1.heap.size 9 i0 (.string ByteArray.empty) 1 16 Tryz.underlying70 HI.out hz0 hz1 hz2 rfl (by decide) _ _ _ rfl (hown2.out.alloc _) ⟨w2.heap.size, 0, none⟩ 1 1 [nmV l k] rfl rfl (one_at _ _ _) (by intro u hu; simp at hu; subst hu; rfl) (by unfold maxLen; omega) (by omega) (by have := U2.out.size; simp; omega) ?_)
      intro v' w3 hown' hg hne
      have U3 := hid (up_grow U2.out hown2.out _ hg)
      have O3 := hid hown'
      clear hown' hg
      go_wp2
      go_roundw
      case rel =>
        refine ⟨k + 1, by omega, by go_num, ?_, U3⟩
        unfold Hid
        rw [List.range_succ, List.map_append]
        exact O3.out
      case measure => simp [intOf]; omega
    · obtain rfl : k = 4 := by omega
      go_wp2
      go_ret
      obtain ⟨q1, q2⟩ := id hown.out
      rcases q2 with ⟨_, q2⟩ | ⟨g, cap, cur, rfl, q2, q3⟩
      · cases q2
      · refine ⟨g, cap, rfl, Nat.le_trans U1.out.size q2, fun i hi => ?_, U1.out.trans (hU.out.mono U1.out.size)⟩
        rw [hown.out.cellAt i (by omega)]
        rcases (show i = 0 ∨ i = 1 ∨ i = 2 ∨ i = 3 by omega) with rfl | rfl | rfl | rfl <;> rfl
end Go.Proofs.YtaokifbpakbgdaaGreatDoor

/- Package dataset's 'read': what is raised further down ends here. -/
namespace Go.Proofs.YtaokifbpakbgdaaGreatDoor
open Go.RowKit

theorem catch_panicking (P Q : Nat) (a b : Value) (u : TypeId) (pv : Value) (older : List PanicEntry) (w : World) (hc : w.cell? ⟨P, 0, none⟩ = some a) (hz : w.frozen? ⟨P, 0, none⟩ = false) (hc' : w.cell? ⟨Q, 0, none⟩ = some b) (hz' : w.frozen? ⟨Q, 0, none⟩ = false) (hne : ¬ P = Q) :
    CallsD Tryz.prog 173 #[ptr P, ptr Q] (.panicking ({ v := .iface u pv, recovered := false } :: older)) w fun e u' w' =>
      e = .returned (.tuple #[]) ∧ u' = .panicking ({ v := .iface u pv, recovered := true } :: older) ∧ w' = (w.setCell ⟨P, 0, none⟩ (.slice none 0 0)).setCell ⟨Q, 0, none⟩ (.int .i64 1) := by
  refine callsD_of_wpS Tryz.func173 rfl fun c₀ cs hu => ?_
  apply wpS_seq
  apply wpS_region
  simp [wpOpsS, go_sem, recoverD, hu, Tryz.ntmps173, Exit.thenS]
  refine wpS_cond (t := true) (by simp [Act.eval, Array.replicate]) ?_
  simp only [if_true]
  apply wpS_region
  simp [wpOpsS, go_sem, hc, hz, hc', hz', bodyPostS, results, Tryz.results173]
theorem catch_idle (p q : Addr) (w : World) :
    CallsD Tryz.prog 173 #[.pointer (some p), .pointer (some q)] .returning w fun e u' w' => e = .returned (.tuple #[]) ∧ u' = .returning ∧ w' = w := by
  refine callsD_of_wpS Tryz.func173 rfl fun c₀ cs hu => ?_
  apply wpS_seq
  apply wpS_region
  simp [wpOpsS, go_sem, recoverD, hu, Tryz.ntmps173, Exit.thenS]
  refine wpS_cond (t := false) (by simp [Act.eval, Array.replicate]) ?_
  simp only [Bool.false_eq_true, if_false]
  refine wpS_of_wp (wp_skip ?_)
  cases c₀
  simp_all [bodyPostS, results, Tryz.results173]
/-- How reading ends. -/
def ReadEnd (n : Nat) (w : World) (o : Option (List (El n))) (e : Ending) (w' : World) : Prop := Below w.heap.size w w' ∧ match o with
  | none => e = .returned (.tuple #[.slice none 0 0, .int .i64 1])
  | some l => ∃ v bl, e = .returned (.tuple #[v, .int .i64 0]) ∧ Ow w' n v l bl ∧ New w w' bl
theorem read_any (w : World) (n : Nat) (s : By) (hs : s.length ≤ 16384) :
    Calls Tryz.prog 108 #[.string (bs s)] w (ReadEnd n w (parse n s)) := by
  have hmf : ∀ (fn : Fn) (first cap : Array Value) (w : World), (Instr.makeFunc fn first cap).run Tryz.prog w = .ok (.func fn first cap) w := fun _ _ _ _ => rfl
  go_enter_defers Tryz.func108, Tryz.ntmps108
  go_wp2_with fail
  go_at_call 174
  have hR := Rdr.new ((w.alloc (.cells #[.slice none 0 0] 59)).alloc (.cells #[.int .i64 0] 22)) s
  have hb : ((w.alloc (.cells #[.slice none 0 0] 59)).alloc (.cells #[.int .i64 0] 22)).heap.size = w.heap.size + 1 + 1 := by simp
  rw [hb] at hR
  have hz3 : (((w.alloc (.cells #[.slice none 0 0] 59)).alloc (.cells #[.int .i64 0] 22)).alloc (.cells #[.string (bs s)] 208)).heap.size = w.heap.size + 1 + 1 + 1 := by simp
  have hl0 : (((w.alloc (.cells #[.slice none 0 0] 59)).alloc (.cells #[.int .i64 0] 22)).alloc (.cells #[.string (bs s)] 208)).heap[w.heap.size]? = some (.cells #[.slice none 0 0] 59 (0, 0)) := by
    rw [Below.heap_alloc _ _ _ (by simp; omega), Below.heap_alloc _ _ _ (by simp)]; exact heap_alloc_new _ _
  have he0 : (((w.alloc (.cells #[.slice none 0 0] 59)).alloc (.cells #[.int .i64 0] 22)).alloc (.cells #[.string (bs s)] 208)).heap[w.heap.size + 1]? = some (.cells #[.int .i64 0] 22 (0, 0)) := by
    rw [Below.heap_alloc _ _ _ (by simp)]
    have := heap_alloc_new (w.alloc (.cells #[.slice none 0 0] 59)) (.cells #[.int .i64 0] 22)
    simpa using this
  have hbel := hid (Below.alloc (Below.alloc (Below.alloc (Below.refl w.heap.size w) (Nat.le_refl _) (.cells #[.slice none 0 0] 59)) (by simp) (.cells #[.int .i64 0] 22)) (by simp; omega) (.cells #[.string (bs s)] 208))
  refine (set_any (s.length + 1) (element_all _) n _ _ s hR hs (by omega)).mono ?_
  generalize ((w.alloc (.cells #[.slice none 0 0] 59)).alloc (.cells #[.int .i64 0] 22)).alloc (.cells #[.string (bs s)] 208) = w3 at hR hl0 he0 hbel hz3 ⊢
  have hpar := hid (show toEnd (elP (s.length + 1) n) s.length s = parse n s from rfl)
  rw [hpar.out]
  cases hp : parse n s with
  | none =>
    rintro e w4 ⟨u4, rfl⟩
    have hl4 := (u4.block (lt_of_block hl0) (by omega)).trans hl0
    have he4 := (u4.block (lt_of_block he0) (by omega)).trans he0
    have c1 := cell_of_one hl4
    have c2 := free_of_one hl4
    have c3 := cell_of_one he4
    have c4 := free_of_one he4
    go_wp2
    refine leaves_cons (f := 173) (args := #[ptr w.heap.size, ptr (w.heap.size + 1)]) (by simp) (by simp [go_sem]) ?_
    refine (catch_panicking w.heap.size (w.heap.size + 1) _ _ _ _ [] w4 c1 c2 c3 c4 (by omega)).mono ?_
    rintro e u' w'' ⟨rfl, rfl, rfl⟩
    simp [Leaves, settle, results, Tryz.results108, go_sem, c1, c3]
    refine ⟨?_, by first | rfl | rw [hp]⟩
    have h1 := hbel.out.trans (u4.below (B := w.heap.size) (by omega) (by omega))
    exact (h1.setCell (Nat.le_refl _) _).setCell (by simp) _
  | some l =>
    rintro e w4 ⟨u4, v, rfl, r4, bl, how, hbl⟩
    have hl4 := (u4.block (lt_of_block hl0) (by omega)).trans hl0
    have he4 := (u4.block (lt_of_block he0) (by omega)).trans he0
    have c1 := cell_of_one hl4
    have c2 := free_of_one hl4
    have c3 := cell_of_one he4
    have c4 := free_of_one he4
    obtain ⟨ad, cap, rfl⟩ := how.slice
    go_wp2
    refine leaves_cons (f := 173) (args := #[ptr w.heap.size, ptr (w.heap.size + 1)]) (by simp) (by simp [go_sem]) ?_
    refine (catch_idle ⟨w.heap.size, 0, none⟩ ⟨w.heap.size + 1, 0, none⟩ _).mono ?_
    rintro e u' w'' ⟨rfl, rfl, rfl⟩
    simp [Leaves, settle, results, Tryz.results108, go_sem, c1, c3]
    have h1 := hbel.out.trans (u4.below (B := w.heap.size) (by omega) (by omega))
    refine ⟨(h1.setCell (Nat.le_refl _) _).setCell (by simp) _, ?_⟩
    try rw [hp]
    refine ⟨_, bl, rfl, how.keep _ _ _ _ (fun j hj => ?_), hbl.1, fun j hj => ?_⟩
    · have := (hbl.2 j hj).1
      rw [Below.heap_setCell _ _ _ _ (by simp; omega), Below.heap_setCell _ _ _ _ (by simp; omega)]
    · have := hbl.2 j hj
      simp
      omega
end Go.Proofs.YtaokifbpakbgdaaGreatDoor

/- Package dataset's checkSet: the first thing that is wrong with a data set. -/
namespace Go.Proofs.YtaokifbpakbgdaaGreatDoor
open Go.RowKit

theorem isKind_any (w : World) (k : By) : Calls Tryz.prog 189 #[.string (bs k)] w fun e w' => e = .returned (.bool (isK k)) ∧ w' = w := by
  have hk := bs_toList k
  go_enter Tryz.func189, Tryz.ntmps189
  go_wp2
  all_goals go_ret
  all_goals refine ⟨ret_bool ?_, rfl⟩
  all_goals simp_all [isK, kinds]
theorem isTag_any (w : World) (t : Int) : Calls Tryz.prog 190 #[.int .i64 t] w fun e w' => e = .returned (.bool (decide (¬ (t < 0 ∨ 4294967295 < t ∨ t / 65536 = 65534)))) ∧ w' = w := by
  by_cases h : 0 ≤ t ∧ t ≤ 4294967295
  · obtain ⟨t, rfl⟩ := Int.eq_ofNat_of_zero_le h.1
    obtain ⟨_, h2⟩ := h
    go_enter Tryz.func190, Tryz.ntmps190
    go_wp2_with (go_at_call 241; refine (reserved_any w t (by omega)).mono ?_; rintro e w1 ⟨rfl, rfl⟩)
    go_ret
    refine ⟨ret_bool ?_, rfl⟩
    rw [Bool.eq_iff_iff]
    simp
    omega
  · have e : decide (¬ (t < 0 ∨ 4294967295 < t ∨ t / 65536 = 65534)) = false := by simp; omega
    rw [e]
    go_enter Tryz.func190, Tryz.ntmps190
    go_wp2_with fail
    all_goals go_ret
    all_goals exact ⟨rfl, rfl⟩
theorem hasSuf_one (u : By) (p : UInt8) : Lib.hasSuffix u [p] = decide (u.getLast? = some p) := by
  unfold Lib.hasSuffix
  rw [Bool.eq_iff_iff, List.isSuffixOf_iff_suffix, decide_eq_true_eq, List.getLast?_eq_some_iff]
  exact ⟨fun ⟨t, h⟩ => ⟨t, h.symm⟩, fun ⟨t, h⟩ => ⟨t, h.symm⟩⟩
theorem below_drewN {B : Nat} {a b : World} (h : Below B a b) (n : Nat) : Below B a (b.drewN n) := ⟨h.os, h.tape, h.output, h.size, h.block⟩
def SetC (n : Nat) : Prop := ∀ (F : Nat → Prop) (w : World) (v : Value) (l : List (El n)) (d : Nat), d ≤ 2 → 3 ≤ d + n → Rd w F n v l →
  Calls Tryz.prog 63 #[v, .int .i64 d] w fun e w' => e = .returned (.int .i64 (errS n d l)) ∧ Below w.heap.size w w'
theorem checkItems_any (n : Nat) (H : SetC n) (F : Nat → Prop) (w : World) (v : Value) (l : Its n) (d : Nat) (hd : l = [] ∨ (d ≤ 2 ∧ 3 ≤ d + n)) (hl : l.length ≤ 8) (h : RdI w F n v l) :
    Calls Tryz.prog 192 #[v, .int .i64 d] w fun e w' => e = .returned (.int .i64 (errI (errS n d) l)) ∧ Below w.heap.size w w' := by
  obtain ⟨ad, cap, rfl, hc⟩ := id h
  go_enter Tryz.func192, Tryz.ntmps192
  go_wp2_with fail
  go_loopw [10] (fun i wr => ∃ k : Nat, k ≤ l.length ∧ i = .int .i64 k ∧ Hid (Below w.heap.size w wr) ∧ Hid (errI (errS n d) l = errI (errS n d) (l.drop k))) (fun i _ => l.length - (intOf i).toNat)
  case atStart => exact ⟨0, Nat.zero_le _, rfl, Below.refl _ _, rfl⟩
  case round =>
    obtain ⟨k, hk, rfl, hup, hspec⟩ := hrel
    by_cases hkl : k < l.length
    · obtain ⟨a, rfl, _, sv, hcell, hrd⟩ := hc k _ (List.getElem?_eq_getElem hkl)
      rw [Nat.one_mul] at hcell
      have hcr := cell_keep (hup.out.block _ (World.block_lt_of_cell? _ _ hcell)) hcell
      have hrd' := hid (hrd.up hup.out)
      clear hcell hrd
      have hdr : l.drop k = l[k] :: l.drop (k + 1) := List.drop_eq_getElem_cons hkl
      generalize hx : l[k] = x at hrd' hdr
      have hd' : d ≤ 2 ∧ 3 ≤ d + n := by
        rcases hd with hd | hd
        · subst hd; simp at hkl
        · exact hd
      obtain ⟨ad2, cap2, rfl⟩ := hrd'.out.slice
      go_wp2_with fail
      go_at_call 63
      refine (H F _ _ x d hd'.1 hd'.2 (hrd'.out.up (Below.alloc (Below.refl _ _) (Nat.le_refl _) _))).mono ?_
      rintro e w2 ⟨rfl, u2⟩
      have hup2 := hid ((Below.alloc hup.out hup.out.size (.cells #[.slice ad2 x.length cap2] 182)).trans (u2.mono (by have := hup.out.size; simp; omega)))
      clear u2
      have hstep := hid (show errI (errS n d) (l.drop k) = if errS n d x = 0 then errI (errS n d) (l.drop (k + 1)) else errS n d x by rw [hdr]; rfl)
      clear hdr
      generalize errS n d x = ee at hstep ⊢
      by_cases he : ee = 0
      · subst he
        go_wp2
        go_roundw
        case rel => exact ⟨k + 1, by omega, by go_num, hup2, by unfold Hid; rw [hspec.out, hstep.out]; simp⟩
        case measure => simp [intOf]; omega
      · have he2 : (ee != 0) = true := by simpa using he
        have he3 := hid he
        clear he
        go_wp2
        go_ret
        exact ⟨ret_int (by rw [hspec.out, hstep.out, if_neg he3.out]), hup2.out⟩
    · go_wp2
      go_ret
      refine ⟨ret_int ?_, hup.out⟩
      rw [hspec.out, List.drop_eq_nil_of_le (by omega)]; rfl
theorem checkElement_any (n : Nat) (H : SetC n) (F : Nat → Prop) (w : World) (x : El (n + 1)) (iv : Value) (b : Int) (d : Nat) (hd : d ≤ 2) (hn : 3 ≤ d + (n + 1)) (h : RdI w F n iv x.2.2.2) :
    Calls Tryz.prog 117 #[.agg #[.int .i64 x.1, .string (bs x.2.1), .string (bs x.2.2.1), iv], .int .i64 b, .int .i64 d] w fun e w' => e = .returned (.int .i64 (errE (errI (errS n (d + 1))) d b x)) ∧ Below w.heap.size w w' := by
  obtain ⟨t, k, u, its⟩ := x
  simp only at h ⊢
  obtain ⟨ad, cap, rfl⟩ := h.slice
  have hk := bs_toList k
  have hu := bs_toList u
  have hz := bs_size u
  go_enter Tryz.func117, Tryz.ntmps117
  go_wp2_with fail
  go_at_call 189
  refine (isKind_any _ k).mono ?_
  rintro e w1 ⟨rfl, rfl⟩
  by_cases h1 : isK k = false
  · rw [h1]
    go_wp2
    go_ret
    exact ⟨ret_int (by unfold errE; rw [if_pos h1]), Below.alloc (Below.refl _ _) (Nat.le_refl _) _⟩
  rw [show isK k = true by simpa using h1]
  go_wp2_with fail
  go_at_call 190
  refine (isTag_any _ t).mono ?_
  rintro e w1 ⟨rfl, rfl⟩
  by_cases h2 : t < 0 ∨ 4294967295 < t ∨ t / 65536 = 65534
  · rw [decide_eq_false (not_not_intro h2)]
    go_wp2_with fail
    go_ret
    refine ⟨ret_int ?_, Below.alloc (Below.refl _ _) (Nat.le_refl _) _⟩
    unfold errE
    rw [if_neg h1, if_pos (by simp only []; omega)]
  rw [decide_eq_true h2]
  by_cases h3 : t ≤ b
  · go_wp2_with fail
    go_ret
    refine ⟨ret_int ?_, Below.alloc (Below.refl _ _) (Nat.le_refl _) _⟩
    unfold errE
    rw [if_neg h1, if_pos (by simp only []; omega)]
  have E1 : Hid (errE (errI (errS n (d + 1))) d b (t, k, u, its) = if 64 < u.length ∨ u.getLast? = some (padB k) then 4 else if (k = SQ ∧ u ≠ []) ∨ (k ≠ SQ ∧ its ≠ []) then 1 else if 8 < its.length then 4 else if k = SQ ∧ 2 ≤ d then 5 else errI (errS n (d + 1)) its) := by
    unfold Hid errE
    rw [if_neg h1, if_neg (by simp only []; omega)]
  clear h1 h2
  have hup0 : Hid (Below w.heap.size w (w.alloc (.cells #[.int .i64 t, .string (bs k), .string (bs u), .slice ad its.length cap] 73))) := Below.alloc (Below.refl _ _) (Nat.le_refl _) _
  by_cases h4 : 64 < u.length
  · have d1 : decide ((64 : Int) < (u.length : Int)) = true := by simp; omega
    have d2 : decide (64 < u.length) = true := by simp; omega
    go_wp2_with fail
    go_quiet (fail)
    go_wp2
    go_ret
    exact ⟨ret_int (by rw [E1.out, if_pos (Or.inl h4)]), below_drewN hup0.out _⟩
  have d1 : decide ((64 : Int) < (u.length : Int)) = false := by simp; omega
  have d2 : decide (64 < u.length) = false := by simp; omega
  go_wp2_with fail
  go_quiet (first
    | (go_at_call 191; exact Calls.quiet_of_same (pad_any _ k))
    | (go_at_call 77; exact Calls.quiet_of_same (Tryz.strings_HasSuffix (bs u) (bs [padB k]) _ (by rw [bs_size]; omega))))
  rw [bs_list, bs_list, hasSuf_one]
  by_cases h5 : u.getLast? = some (padB k)
  · rw [decide_eq_true h5]
    go_wp2
    go_ret
    exact ⟨ret_int (by rw [E1.out, if_pos (Or.inr h5)]), below_drewN hup0.out _⟩
  rw [decide_eq_false h5]
  have E2 := hid (E1.out.trans (if_neg (fun e => e.elim h4 h5)))
  clear E1 h5
  have hup1 := hid (below_drewN hup0.out nq)
  have hrd := hid (h.up hup1.out)
  clear hup0
  by_cases h6 : (k == [83, 81]) = true
  · have hq := hid (show k = SQ by simpa using h6)
    by_cases h7 : u = []
    · have E3 := hid (E2.out.trans (if_neg (by rintro (⟨_, e⟩ | ⟨e, _⟩); (· exact e h7); exact e hq.out)))
      have d3 : (u == []) = true := by rw [h7]; rfl
      have d4 : (u != []) = false := by rw [h7]; rfl
      have d5 : u.isEmpty = true := by rw [h7]; rfl
      clear E2 h7
      by_cases h8 : 8 < its.length
      · have d6 : decide ((8 : Int) < (its.length : Int)) = true := by simp; omega
        go_wp2_with fail
        go_ret
        exact ⟨ret_int (by rw [E3.out, if_pos h8]), hup1.out⟩
      · have E4 := hid (E3.out.trans (if_neg h8))
        have d6 : decide ((8 : Int) < (its.length : Int)) = false := by simp; omega
        clear E3
        by_cases h9 : 2 ≤ d
        · have d7 : decide ((2 : Int) ≤ (d : Int)) = true := by simp; omega
          go_wp2_with fail
          go_ret
          exact ⟨ret_int (by rw [E4.out, if_pos ⟨hq.out, h9⟩]), hup1.out⟩
        · have E5 := hid (E4.out.trans (if_neg (fun e => h9 e.2)))
          have d7 : decide ((2 : Int) ≤ (d : Int)) = false := by simp; omega
          clear E4
          go_wp2_with fail
          go_at_call 192
          refine (checkItems_any n H F _ _ its (d + 1) (Or.inr ⟨by omega, by omega⟩) (by omega) hrd.out).mono ?_
          rintro e w2 ⟨rfl, u2⟩
          have hup2 := hid (hup1.out.trans (u2.mono hup1.out.size))
          clear u2 hup1 hrd
          generalize errI (errS n (d + 1)) its = ee at E5 ⊢
          go_wp2
          go_ret
          exact ⟨ret_int (by rw [E5.out]), hup2.out⟩
    · have d3 : (u == []) = false := by cases u with | nil => exact absurd rfl h7 | cons _ _ => rfl
      have d4 : (u != []) = true := by cases u with | nil => exact absurd rfl h7 | cons _ _ => rfl
      have d5 : u.isEmpty = false := by cases u with | nil => exact absurd rfl h7 | cons _ _ => rfl
      have E3 := hid (E2.out.trans (if_pos (Or.inl ⟨hq.out, h7⟩)))
      clear h7
      go_wp2_with fail
      go_ret
      exact ⟨ret_int (by rw [E3.out]), hup1.out⟩
  · have h6' : (k == [83, 81]) = false := by simpa using h6
    have hq := hid (show ¬ k = SQ by simpa using h6)
    clear h6
    by_cases h7 : its = []
    · subst h7
      have E3 : Hid (errE (errI (errS n (d + 1))) d b (t, k, u, []) = 0) := by
        unfold Hid
        rw [E2.out, if_neg (by rintro (⟨e, _⟩ | ⟨_, e⟩); (· exact hq.out e); exact e rfl), if_neg (by simp), if_neg (fun e => hq.out e.1)]; rfl
      clear E2
      go_wp2_with fail
      go_at_call 192
      refine (checkItems_any n H F _ _ [] (d + 1) (Or.inl rfl) (by simp) hrd.out).mono ?_
      rintro e w2 ⟨rfl, u2⟩
      have hup2 := hid (hup1.out.trans (u2.mono hup1.out.size))
      clear u2 hup1 hrd
      go_wp2
      go_ret
      exact ⟨ret_int (by rw [E3.out]; rfl), hup2.out⟩
    · have hlen : 0 < its.length := List.length_pos_iff.2 h7
      have E3 := hid (E2.out.trans (if_pos (Or.inr ⟨hq.out, h7⟩)))
      clear h7
      go_wp2_with fail
      go_ret
      exact ⟨ret_int (by rw [E3.out]), hup1.out⟩
end Go.Proofs.YtaokifbpakbgdaaGreatDoor

/- Package dataset's checkSet and Decode. -/
namespace Go.Proofs.YtaokifbpakbgdaaGreatDoor
open Go.RowKit

theorem checkSet_succ (n : Nat) (H : SetC n) : SetC (n + 1) := by
  intro F w v l d hd hn h
  obtain ⟨ad, cap, rfl⟩ := h.slice
  by_cases hlen : 24 < l.length
  · have d1 : decide ((24 : Int) < (l.length : Int)) = true := by simp; omega
    go_enter Tryz.func63, Tryz.ntmps63
    go_wp2_with fail
    go_ret
    exact ⟨ret_int (by rw [errS, if_pos hlen]), Below.refl _ _⟩
  have d1 : decide ((24 : Int) < (l.length : Int)) = false := by simp; omega
  have E1 := hid (show errS (n + 1) d l = errL (errE (errI (errS n (d + 1))) d) (fun x => x.1) (-1) l by rw [errS, if_neg hlen])
  go_enter Tryz.func63, Tryz.ntmps63
  go_wp2_with fail
  go_loopw [5, 14] (fun bv i wr => ∃ (k : Nat) (b : Int), k ≤ l.length ∧ i = .int .i64 k ∧ bv = .int .i64 b ∧ Hid (Below w.heap.size w wr) ∧ Hid (errS (n + 1) d l = errL (errE (errI (errS n (d + 1))) d) (fun x => x.1) b (l.drop k))) (fun _ i _ => l.length - (intOf i).toNat)
  case atStart => exact ⟨0, -1, Nat.zero_le _, rfl, rfl, Below.refl _ _, E1.out⟩
  case round =>
    obtain ⟨k, b, hk, rfl, rfl, hup, hspec⟩ := hrel
    by_cases hkl : k < l.length
    · obtain ⟨a, ad2, cap2, rfl, _, c0, c1, c2, c3, hrd⟩ := (h.up hup.out).at (List.getElem?_eq_getElem hkl)
      have hrd' := hid hrd
      clear hrd
      have hdr : l.drop k = l[k] :: l.drop (k + 1) := List.drop_eq_getElem_cons hkl
      generalize l[k] = x at hrd' hdr c0 c1 c2 c3
      go_wp2_with fail
      go_at_call 117
      refine (checkElement_any n H F _ x _ b d hd hn (hrd'.out.up (Below.alloc (Below.refl _ _) (Nat.le_refl _) _))).mono ?_
      rintro e w2 ⟨rfl, u2⟩
      have hx2 := (Four.new wr (.int .i64 x.1) (.string (bs x.2.1)) (.string (bs x.2.2.1)) (.slice ad2 x.2.2.2.length cap2)).keep (u2.block _ (by simp))
      obtain ⟨⟨x0, _⟩, _⟩ := hx2.cells
      have hup2 := hid ((Below.alloc hup.out hup.out.size (.cells #[.int .i64 x.1, .string (bs x.2.1), .string (bs x.2.2.1), .slice ad2 x.2.2.2.length cap2] 73)).trans (u2.mono (by have := hup.out.size; simp; omega)))
      clear u2 hx2
      have hstep := hid (show errL (errE (errI (errS n (d + 1))) d) (fun x => x.1) b (l.drop k) = if errE (errI (errS n (d + 1))) d b x = 0 then errL (errE (errI (errS n (d + 1))) d) (fun x => x.1) x.1 (l.drop (k + 1)) else errE (errI (errS n (d + 1))) d b x by rw [hdr]; rfl)
      clear hdr
      generalize errE (errI (errS n (d + 1))) d b x = ee at hstep ⊢
      by_cases he : ee = 0
      · subst he
        go_wp2
        go_roundw
        case rel => exact ⟨k + 1, x.1, by omega, by go_num, rfl, hup2, by unfold Hid; rw [hspec.out, hstep.out]; simp⟩
        case measure => simp [intOf]; omega
      · have he2 : (ee != 0) = true := by simpa using he
        have he3 := hid he
        clear he
        go_wp2
        go_ret
        exact ⟨ret_int (by rw [hspec.out, hstep.out, if_neg he3.out]), hup2.out⟩
    · go_wp2
      go_ret
      refine ⟨ret_int ?_, hup.out⟩
      rw [hspec.out, List.drop_eq_nil_of_le (by omega)]; rfl
theorem checkSet_any : ∀ n, SetC n
  | 0 => fun _ _ _ _ _ h1 h2 _ => absurd h2 (by omega)
  | n + 1 => checkSet_succ n (checkSet_any n)
/-- The error that Decode answers. -/
def decE (n : Nat) (s : By) : Int := if 16384 < s.length then 4 else match parse n s with
  | none => 1
  | some l => errS n 0 l
/-- How Decode ends. -/
def DecEnd (n : Nat) (w : World) (s : By) (e : Ending) (w' : World) : Prop := Below w.heap.size w w' ∧
  ((decE n s ≠ 0 ∧ e = .returned (.tuple #[.slice none 0 0, .int .i64 (decE n s)])) ∨
   (decE n s = 0 ∧ ∃ l v bl, parse n s = some l ∧ errS n 0 l = 0 ∧ e = .returned (.tuple #[v, .int .i64 0]) ∧ Ow w' n v l bl ∧ New w w' bl))
theorem Decode_any (w : World) (n : Nat) (hn : 3 ≤ n) (s : By) :
    Calls Tryz.prog 58 #[.string (bs s)] w (DecEnd n w s) := by
  have hz := bs_size s
  by_cases hs : 16384 < s.length
  · have d1 : decide ((16384 : Int) < (s.length : Int)) = true := by simp; omega
    have e1 := hid (show decE n s = 4 by unfold decE; rw [if_pos hs])
    go_enter Tryz.func58, Tryz.ntmps58
    go_wp2_with fail
    go_ret2
    exact ⟨Below.refl _ _, Or.inl ⟨by rw [e1.out]; decide, by rw [e1.out]; rfl⟩⟩
  have d1 : decide ((16384 : Int) < (s.length : Int)) = false := by simp; omega
  go_enter Tryz.func58, Tryz.ntmps58
  go_wp2_with fail
  go_at_call 108
  refine (read_any w n s (by omega)).mono ?_
  cases hp : parse n s with
  | none =>
    have e1 := hid (show decE n s = 1 by unfold decE; rw [if_neg hs, hp])
    rintro e w1 ⟨u1, rfl⟩
    have u1' := hid u1
    clear u1
    go_wp2_with fail
    go_ret2
    exact ⟨u1'.out, Or.inl ⟨by rw [e1.out]; decide, by rw [e1.out]; rfl⟩⟩
  | some l =>
    have e1 := hid (show decE n s = errS n 0 l by unfold decE; rw [if_neg hs, hp])
    rintro e w1 ⟨u1, v, bl, rfl, how, hbl⟩
    have u1' := hid u1
    clear u1
    go_wp2_with fail
    go_at_call 63
    refine (checkSet_any n (fun _ => True) w1 v l 0 (by omega) (by omega) (how.rd _ _ _ _ _ (fun _ _ => trivial))).mono ?_
    rintro e w2 ⟨rfl, u2⟩
    have how2 := hid (how.keep (w' := w2) _ _ _ _ (fun j hj => u2.block j (hbl.2 j hj).2))
    have hbl2 := hid (hbl.more u2.size)
    have u2' := hid (u1'.out.trans (u2.mono u1'.out.size))
    clear u2 how hbl
    have hE := hid (rfl : errS n 0 l = errS n 0 l)
    generalize hee : errS n 0 l = ee at e1 ⊢
    by_cases he : ee = 0
    · subst he
      go_wp2
      go_ret2
      exact ⟨u2'.out, Or.inr ⟨e1.out, l, v, bl, hp, hee, rfl, how2.out, hbl2.out⟩⟩
    · have he2 : (ee != 0) = true := by simpa using he
      have he4 : (ee == 0) = false := by simpa using he
      have he3 := hid he
      clear he hE
      have hee' := hid hee
      clear hee
      go_wp2
      go_ret2
      exact ⟨u2'.out, Or.inl ⟨by rw [e1.out]; exact he3.out, by rw [e1.out]; rfl⟩⟩
end Go.Proofs.YtaokifbpakbgdaaGreatDoor

/- A data set comes back out of its bytes, by lengths or by marks, however many pads (no program). -/
namespace Go.Proofs.YtaokifbpakbgdaaGreatDoor

theorem wrV_eq (p : Nat) (k v : By) : wrV p k v = v ++ List.replicate (v.length % 2 + 2 * p) (padB k) := by
  unfold wrV
  rcases Nat.mod_two_eq_zero_or_one v.length with h | h
  · rw [if_neg (by omega), h, Nat.zero_add]
  · rw [if_pos h, h, List.append_assoc, Nat.add_comm 1, List.replicate_succ]; rfl
/-- Its bytes are read as it. -/
def Rt {α : Type} (f : Nat → By → Option (α × By)) (e : α → By) (x : α) : Prop := ∀ r, ∃ t r', tg (e x ++ r) = some (t, r') ∧ t ≠ 4294893581 ∧ t ≠ 4294893789 ∧ f t r' = some (x, r)
theorem Rt.ne {α : Type} {f : Nat → By → Option (α × By)} {e : α → By} {x : α} (h : Rt f e x) : e x ≠ [] := by
  intro hn
  obtain ⟨t, r', h1, _⟩ := h []
  rw [hn] at h1
  cases h1
/- What is right. -/
theorem errI_mem {α : Type} {f : List α → Int} : ∀ {l : List (List α)}, errI f l = 0 → ∀ s ∈ l, f s = 0
  | [], _, s, hs => by cases hs
  | t :: l, h, s, hs => by
    rw [errI] at h
    by_cases ht : f t = 0
    · rw [if_pos ht] at h
      rcases List.mem_cons.1 hs with rfl | hs
      · exact ht
      · exact errI_mem h s hs
    · rw [if_neg ht] at h; exact absurd h ht
theorem errL_mem {α : Type} {e : Int → α → Int} {t : α → Int} : ∀ {l : List α} {b : Int}, errL e t b l = 0 → ∀ x ∈ l, ∃ b, e b x = 0
  | [], _, _, x, hx => by cases hx
  | y :: l, b, h, x, hx => by
    rw [errL] at h
    by_cases hy : e b y = 0
    · rw [if_pos hy] at h
      rcases List.mem_cons.1 hx with rfl | hx
      · exact ⟨b, hy⟩
      · exact errL_mem h x hx
    · rw [if_neg hy] at h; exact absurd h hy
/-- What an element is that is right. -/
theorem errE_ok {n : Nat} {g : Its n → Int} {d : Nat} {b : Int} {x : El (n + 1)} (h : errE g d b x = 0) :
    isK x.2.1 = true ∧ 0 ≤ x.1 ∧ x.1 ≤ 4294967295 ∧ x.1 / 65536 ≠ 65534 ∧ b < x.1 ∧ x.2.2.1.length ≤ 64 ∧ x.2.2.1.getLast? ≠ some (padB x.2.1) ∧ (x.2.1 = SQ → x.2.2.1 = []) ∧ (x.2.1 ≠ SQ → x.2.2.2 = []) ∧ x.2.2.2.length ≤ 8 ∧
      (x.2.1 = SQ → d < 2) ∧ g x.2.2.2 = 0 := by
  unfold errE at h
  by_cases h1 : isK x.2.1 = false
  · rw [if_pos h1] at h; cases h
  rw [if_neg h1] at h
  by_cases h2 : x.1 < 0 ∨ 4294967295 < x.1 ∨ x.1 / 65536 = 65534 ∨ x.1 ≤ b
  · rw [if_pos h2] at h; cases h
  rw [if_neg h2] at h
  by_cases h3 : 64 < x.2.2.1.length ∨ x.2.2.1.getLast? = some (padB x.2.1)
  · rw [if_pos h3] at h; cases h
  rw [if_neg h3] at h
  by_cases h4 : (x.2.1 = SQ ∧ x.2.2.1 ≠ []) ∨ (x.2.1 ≠ SQ ∧ x.2.2.2 ≠ [])
  · rw [if_pos h4] at h; cases h
  rw [if_neg h4] at h
  by_cases h5 : 8 < x.2.2.2.length
  · rw [if_pos h5] at h; cases h
  rw [if_neg h5] at h
  by_cases h6 : x.2.1 = SQ ∧ 2 ≤ d
  · rw [if_pos h6] at h; cases h
  rw [if_neg h6] at h
  refine ⟨by simpa using h1, by omega, by omega, by omega, by omega, by omega, fun hh => h3 (Or.inr hh), fun hq => ?_, fun hq => ?_, by omega, fun hq => ?_, h⟩
  · by_cases hv : x.2.2.1 = []
    · exact hv
    · exact absurd (Or.inl ⟨hq, hv⟩) h4
  · by_cases hv : x.2.2.2 = []
    · exact hv
    · exact absurd (Or.inr ⟨hq, hv⟩) h4
  · by_cases hd : 2 ≤ d
    · exact absurd ⟨hq, hd⟩ h6
    · omega
theorem isK_length {k : By} (h : isK k = true) : k.length = 2 := by
  unfold isK kinds at h
  rw [List.contains_iff_mem] at h
  simp only [List.mem_cons, List.not_mem_nil, or_false] at h
  rcases h with rfl | rfl | rfl | rfl | rfl | rfl | rfl | rfl <;> rfl
theorem mem_flat_le {α : Type} {e : α → By} : ∀ {l : List α} {x : α}, x ∈ l → (e x).length ≤ ((l.map e).flatten).length
  | y :: l, x, h => by
    simp only [List.map_cons, List.flatten_cons, List.length_append]
    rcases List.mem_cons.1 h with rfl | h
    · omega
    · have := mem_flat_le (e := e) h; omega

theorem wrS_succ (o : Bool) (p n : Nat) (l : List (El (n + 1))) : wrS o p (n + 1) l = (l.map (wrE (wrS o p n) o p)).flatten := rfl
end Go.Proofs.YtaokifbpakbgdaaGreatDoor
