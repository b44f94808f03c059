/-
  Package folioref on archives: Rows, names.
-/
import Derived.Test.YtaokifbpakbgdaaGreatDoorArR1
namespace Go.Proofs.YtaokifbpakbgdaaGreatDoor
open Go.RowKit

/-- The words of the levels, the tags of a level, the tags of the counts. -/
def wordL (i : Nat) : By := if i = 0 then [80, 65, 84, 73, 69, 78, 84] else if i = 1 then [83, 84, 85, 68, 89] else if i = 2 then [83, 69, 82, 73, 69, 83] else [73, 77, 65, 71, 69]
def tagsL (i : Nat) : List Int := if i = 0 then [1048608, 1048592, 1048624] else if i = 1 then [2097165, 524320, 524336, 524368] else if i = 2 then [2097166, 524384, 2097169] else [524312, 2097171, 533016]
def cntT (i : Nat) : Int := if i = 0 then 2101760 else if i = 1 then 2101766 else if i = 2 then 2101769 else -1
/-- The table in memory. -/
def RowsAt (w : World) (b : Nat) : Prop := ∀ i, i < 4 → ∃ c, w.cell? ⟨b, i * 3, none⟩ = some (.string (bs (wordL i))) ∧ w.cell? ⟨b, i * 3 + 1, none⟩ = some (.slice (some ⟨c, 0, none⟩) (tagsL i).length (tagsL i).length) ∧ w.cell? ⟨b, i * 3 + 2, none⟩ = some (.int .i64 (cntT i)) ∧ ∀ j t, (tagsL i)[j]? = some t → w.cell? ⟨c, j, none⟩ = some (.int .i64 t)
theorem RowsAt.up {w w' : World} {b : Nat} (h : RowsAt w b) (k : Below w.heap.size w w') : RowsAt w' b := fun i hi => by
  have up : ∀ {p : Addr} {v : Value}, w.cell? p = some v → w'.cell? p = some v := fun hc => (k.cell (World.block_lt_of_cell? _ _ hc)).trans hc
  obtain ⟨c, h1, h2, h3, h4⟩ := h i hi
  exact ⟨c, up h1, up h2, up h3, fun j t ht => up (h4 j t ht)⟩
theorem five_at (w : World) (o0 o1 o2 o3 o4 : Obj) : (((((w.alloc o0).alloc o1).alloc o2).alloc o3).alloc o4).heap[w.heap.size]? = some o0 ∧ (((((w.alloc o0).alloc o1).alloc o2).alloc o3).alloc o4).heap[w.heap.size + 1]? = some o1 ∧
    (((((w.alloc o0).alloc o1).alloc o2).alloc o3).alloc o4).heap[w.heap.size + 1 + 1]? = some o2 ∧ (((((w.alloc o0).alloc o1).alloc o2).alloc o3).alloc o4).heap[w.heap.size + 1 + 1 + 1]? = some o3 ∧ (((((w.alloc o0).alloc o1).alloc o2).alloc o3).alloc o4).heap[w.heap.size + 1 + 1 + 1 + 1]? = some o4 := by
  have n : ∀ (A : World) (o : Obj) (k : Nat), k = A.heap.size → (A.alloc o).heap[k]? = some o := fun A o k h => by subst h; exact heap_alloc_new _ _
  have s : ∀ (A : World) (o : Obj) (k : Nat), k < A.heap.size → (A.alloc o).heap[k]? = A.heap[k]? := fun A o k h => Below.heap_alloc A o k h
  refine ⟨?_, ?_, ?_, ?_, ?_⟩
  · rw [s _ _ _ (by simp only [World.size_alloc]; omega), s _ _ _ (by simp only [World.size_alloc]; omega), s _ _ _ (by simp only [World.size_alloc]; omega), s _ _ _ (by simp)]; exact n _ _ _ rfl
  · rw [s _ _ _ (by simp only [World.size_alloc]; omega), s _ _ _ (by simp only [World.size_alloc]; omega), s _ _ _ (by simp)]; exact n _ _ _ (by simp)
  · rw [s _ _ _ (by simp only [World.size_alloc]; omega), s _ _ _ (by simp)]; exact n _ _ _ (by simp)
  · rw [s _ _ _ (by simp)]; exact n _ _ _ (by simp)
  · exact n _ _ _ (by simp)
theorem rows_at {W : World} {s : Nat} (b0 : W.heap[s]? = some (.cells #[.int .i64 1048608, .int .i64 1048592, .int .i64 1048624] 3 (0, 0))) (b1 : W.heap[s + 1]? = some (.cells #[.int .i64 2097165, .int .i64 524320, .int .i64 524336, .int .i64 524368] 3 (0, 0))) (b2 : W.heap[s + 1 + 1]? = some (.cells #[.int .i64 2097166, .int .i64 524384, .int .i64 2097169] 3 (0, 0))) (b3 : W.heap[s + 1 + 1 + 1]? = some (.cells #[.int .i64 524312, .int .i64 2097171, .int .i64 533016] 3 (0, 0))) (b4 : W.heap[s + 1 + 1 + 1 + 1]? = some (.cells #[.string ⟨#[80, 65, 84, 73, 69, 78, 84]⟩, .slice (some ⟨s, 0, none⟩) 3 3, .int .i64 2101760, .string ⟨#[83, 84, 85, 68, 89]⟩, .slice (some ⟨s + 1, 0, none⟩) 4 4, .int .i64 2101766, .string ⟨#[83, 69, 82, 73, 69, 83]⟩, .slice (some ⟨s + 1 + 1, 0, none⟩) 3 3, .int .i64 2101769, .string ⟨#[73, 77, 65, 71, 69]⟩, .slice (some ⟨s + 1 + 1 + 1, 0, none⟩) 3 3, .int .i64 (-1)] 197 (0, 0))) : RowsAt W (s + 1 + 1 + 1 + 1) := fun i hi => by
  rcases (show i = 0 ∨ i = 1 ∨ i = 2 ∨ i = 3 by omega) with rfl | rfl | rfl | rfl
  · refine ⟨s, by simp [wordL, bs, World.cell?, b4], by simp [tagsL, World.cell?, b4], by simp [cntT, World.cell?, b4], fun j t hj => ?_⟩
    match j, hj with
    | 0, hj | 1, hj | 2, hj => simp [tagsL] at hj; subst hj; simp [World.cell?, b0]
    | j + 3, hj => simp [tagsL] at hj
  · refine ⟨s + 1, by simp [wordL, bs, World.cell?, b4], by simp [tagsL, World.cell?, b4], by simp [cntT, World.cell?, b4], fun j t hj => ?_⟩
    match j, hj with
    | 0, hj | 1, hj | 2, hj | 3, hj => simp [tagsL] at hj; subst hj; simp [World.cell?, b1]
    | j + 4, hj => simp [tagsL] at hj
  · refine ⟨s + 1 + 1, by simp [wordL, bs, World.cell?, b4], by simp [tagsL, World.cell?, b4], by simp [cntT, World.cell?, b4], fun j t hj => ?_⟩
    match j, hj with
    | 0, hj | 1, hj | 2, hj => simp [tagsL] at hj; subst hj; simp [World.cell?, b2]
    | j + 3, hj => simp [tagsL] at hj
  · refine ⟨s + 1 + 1 + 1, by simp [wordL, bs, World.cell?, b4], by simp [tagsL, World.cell?, b4], by simp [cntT, World.cell?, b4], fun j t hj => ?_⟩
    match j, hj with
    | 0, hj | 1, hj | 2, hj => simp [tagsL] at hj; subst hj; simp [World.cell?, b3]
    | j + 3, hj => simp [tagsL] at hj
theorem rRows_any (w : World) : Calls Tryz.prog 163 #[] w fun e w' => ∃ b, e = .returned (.slice (some ⟨b, 0, none⟩) 4 4) ∧ RowsAt w' b ∧ Below w.heap.size w w' := by
  go_enter Tryz.func163, Tryz.ntmps163
  go_wp2
  go_ret
  refine ⟨_, rfl, ?_, ?_⟩
  · obtain ⟨b0, b1, b2, b3, b4⟩ := five_at w (.cells #[.int .i64 1048608, .int .i64 1048592, .int .i64 1048624] 3) (.cells #[.int .i64 2097165, .int .i64 524320, .int .i64 524336, .int .i64 524368] 3) (.cells #[.int .i64 2097166, .int .i64 524384, .int .i64 2097169] 3) (.cells #[.int .i64 524312, .int .i64 2097171, .int .i64 533016] 3)
      (.cells #[.string ⟨#[80, 65, 84, 73, 69, 78, 84]⟩, .slice (some ⟨w.heap.size, 0, none⟩) 3 3, .int .i64 2101760, .string ⟨#[83, 84, 85, 68, 89]⟩, .slice (some ⟨w.heap.size + 1, 0, none⟩) 4 4, .int .i64 2101766, .string ⟨#[83, 69, 82, 73, 69, 83]⟩, .slice (some ⟨w.heap.size + 1 + 1, 0, none⟩) 3 3, .int .i64 2101769, .string ⟨#[73, 77, 65, 71, 69]⟩, .slice (some ⟨w.heap.size + 1 + 1 + 1, 0, none⟩) 3 3, .int .i64 (-1)] 197)
    exact rows_at b0 b1 b2 b3 b4
  · exact ((((Below.alloc (Below.refl _ _) (Nat.le_refl _) _).alloc (by simp) _).alloc (by simp; omega) _).alloc (by simp; omega) _).alloc (by simp; omega) _
/-- The four names in memory. -/
def NmsAt {n : Nat} (w : World) (g : Nat) (l : List (El (n + 1))) : Prop := ∀ i, i < 4 → w.cell? ⟨g, i, none⟩ = some (.string (bs (nm i l)))
theorem NmsAt.up {n : Nat} {w w' : World} {g : Nat} {l : List (El (n + 1))} (h : NmsAt w g l) (k : Below w.heap.size w w') : NmsAt w' g l := fun i hi => (k.cell (World.block_lt_of_cell? _ _ (h i hi))).trans (h i hi)
theorem info_str : (Tryz.prog.info? 9).map (fun i => (i.zero, i.size, i.bytes)) = some (some (.string ByteArray.empty), 1, 16) := by kernel_rfl
theorem up_grow {w wr w2 : World} {e : TypeId} {k : Nat} {v : Value} {n : Nat} {xs : List Value} (hU : Below w.heap.size w wr) (hown : wr.ownsRow w.heap.size e k v n xs) (o : Obj) (hg : (wr.alloc o).grownBy w2 v.ownBlock) : Below w.heap.size w w2 :=
  Below.grown (Below.alloc hU hU.size o) hg (Nat.le_trans hU.size (by simp)) (fun k hk => ((hown.alloc o).lt k hk).1)
theorem one_at (w : World) (T : TypeId) (c0 : Value) : ∀ j u, [c0][j]? = some u → (w.alloc (.cells #[c0] T)).cell? ((⟨w.heap.size, 0, none⟩ : Addr).add j) = some u := by
  intro j u hj
  rw [Addr.add_lit]
  match j, hj with
  | 0, hj => simp at hj; subst hj; simp
  | j + 1, hj => simp at hj
def nmV {n : Nat} (l : List (El (n + 1))) (i : Nat) : Value := .string (bs (nm i l))
set_option maxRecDepth 20000 in
theorem rnames_any (n : Nat) (F : Nat → Prop) (w : World) (v : Value) (l : List (El (n + 1))) (h : Rd w F (n + 1) v l) (hl : l.length ≤ 24) :
    Calls Tryz.prog 100 #[v] w fun e w' => ∃ g cap, e = .returned (.slice (some ⟨g, 0, none⟩) 4 cap) ∧ w.heap.size ≤ g ∧ NmsAt w' g l ∧ Below w.heap.size w w' := by
  obtain ⟨i0, hi0, hz0, hz1, hz2⟩ := info_parts info_str
  have HI := hid hi0
  clear hi0
  have H := hid h
  clear h
  go_enter Tryz.func100, Tryz.ntmps100
  go_wp2_with fail
  go_at_call 163
  refine (rRows_any w).mono ?_
  rintro e w1 ⟨b, rfl, hr, u1⟩
  have U1 := hid u1
  have R1 := hid hr
  clear u1 hr
  go_wp2_with fail
  go_loopw [3, 5] (fun o i wr => ∃ k : Nat, k ≤ 4 ∧ i = .int .i64 k ∧ Hid (wr.ownsRow w1.heap.size 9 1 o k ((List.range k).map (nmV l))) ∧ Hid (Below w1.heap.size w1 wr)) (fun _ i _ => 4 - (intOf i).toNat)
  case atStart => exact ⟨0, by omega, rfl, World.ownsRow_nil _ _ _ _, Below.refl _ _⟩
  case round =>
    obtain ⟨k, hk, rfl, hown, hU⟩ := hrel
    by_cases hkl : k < 4
    · obtain ⟨c, _, c1, _, c2⟩ := (R1.out.up hU.out) k hkl
      have c3 := c2 0 (nameT k) (by rcases (show k = 0 ∨ k = 1 ∨ k = 2 ∨ k = 3 by omega) with rfl | rfl | rfl | rfl <;> rfl)
      have c4 : 0 < (tagsL k).length := by rcases (show k = 0 ∨ k = 1 ∨ k = 2 ∨ k = 3 by omega) with rfl | rfl | rfl | rfl <;> decide
      clear c2
      generalize (tagsL k).length = m at c1 c4
      go_wp2_with fail
      go_at_call 164
      refine (rText_any n F wr v l (nameT k) (H.out.up (U1.out.trans (hU.out.mono U1.out.size))) hl).mono ?_
      rintro e w2 ⟨rfl, u2⟩
      have hown2 := hid (ownsRow_keep hown.out (w' := w2) (fun j hj => u2.block j (ownsRow_lt hown.out j hj)))
      have U2 := hid (hU.out.trans (u2.mono hU.out.size))
      clear u2 c1 c3 c4
      go_wp2_with (at_builtin; refine wpList_append_own _ rfl _ _ 70 rfl w1.heap.size 9 i0 (.string ByteArray.empty) 1 16 Tryz.underlying70 HI.out hz0 hz1 hz2 rfl (by decide) _ _ _ rfl (hown2.out.alloc _) ⟨w2.heap.size, 0, none⟩ 1 1 [nmV l k] rfl rfl (one_at _ _ _) (by intro u hu; simp at hu; subst hu; rfl) (by unfold maxLen; omega) (by omega) (by have := U2.out.size; simp; omega) ?_)
      intro v' w3 hown' hg hne
      have U3 := hid (up_grow U2.out hown2.out _ hg)
      have O3 := hid hown'
      clear hown' hg
      go_wp2
      go_roundw
      case rel =>
        refine ⟨k + 1, by omega, by go_num, ?_, U3⟩
        unfold Hid
        rw [List.range_succ, List.map_append]
        exact O3.out
      case measure => simp [intOf]; omega
    · obtain rfl : k = 4 := by omega
      go_wp2
      go_ret
      obtain ⟨q1, q2⟩ := id hown.out
      rcases q2 with ⟨_, q2⟩ | ⟨g, cap, cur, rfl, q2, q3⟩
      · cases q2
      · refine ⟨g, cap, rfl, Nat.le_trans U1.out.size q2, fun i hi => ?_, U1.out.trans (hU.out.mono U1.out.size)⟩
        rw [hown.out.cellAt i (by omega)]
        rcases (show i = 0 ∨ i = 1 ∨ i = 2 ∨ i = 3 by omega) with rfl | rfl | rfl | rfl <;> rfl
end Go.Proofs.YtaokifbpakbgdaaGreatDoor
