/-
  Several texts in one; what each one has stands at its head.
-/
import Derived.Test.YtaokifbpakbgdaaGreatDoorKqF
import Derived.Test.YtaokifbpakbgdaaGreatDoorPut19
import Derived.Test.YtaokifbpakbgdaaGreatDoorPut16
/- The sieve, as the walk wants it (no program in it). -/
namespace Go.Proofs.YtaokifbpakbgdaaGreatDoor
open Go.RowKit
theorem match_nil : ∀ t ∈ tagsQ, matchE (kindT t) [] [] = 0 := by decide
theorem filt_at {α : Type} {p : α → Bool} {L : List α} {k : Nat} (hk : k < L.length) (hp : p L[k] = true) : (L.filter p)[((L.take k).filter p).length]? = some L[k] := by
  have h : L.filter p = (L.take k).filter p ++ L[k] :: (L.drop (k + 1)).filter p := by
    conv => lhs; rw [← List.take_append_drop k L, List.filter_append, List.drop_eq_getElem_cons hk, List.filter_cons_of_pos hp]
  rw [h, List.getElem?_append_right (Nat.le_refl _), Nat.sub_self]
  rfl
theorem filt_yes {α : Type} {p : α → Bool} {L : List α} {k : Nat} (hk : k < L.length) (hp : p L[k] = true) : ((L.take (k + 1)).filter p).length = ((L.take k).filter p).length + 1 := by
  rw [List.take_succ_eq_append_getElem hk, List.filter_append, List.filter_cons_of_pos hp]
  simp
theorem filt_no {α : Type} {p : α → Bool} {L : List α} {k : Nat} (hk : k < L.length) (hp : p L[k] = false) : ((L.take (k + 1)).filter p).length = ((L.take k).filter p).length := by
  rw [List.take_succ_eq_append_getElem hk, List.filter_append, List.filter_cons_of_neg (by rw [hp]; decide)]
  simp
/-- What is answered without a pattern and with it: names, their answers, which of them fit. -/
theorem sieve_all {A : List (List (El 3))} (hG : Good (n := 1) A) {lvl : Nat} (hlv : lvl < 4) {nf : Nat → By} (hnf : NfOk lvl nf) {t : Int} (ht : t ∈ tagsQ) (h5 : t ≠ 524370) (hr : rowT t ≤ lvl) (hn : ∀ i, i < lvl → t ≠ nameT i) {p : By} (hp : p.length ≤ 64) (hl : p.getLast? ≠ some (padB (kindT t))) (hm : matchE (kindT t) p [] = 0) :
    ∃ (NS : List By) (X : By → List (El 3)) (fit : By → Bool) (V : By → By), ansS A lvl (askQ lvl nf [keyX t []]) = NS.map X ∧ fndE (wrS false 0 3 (askQ lvl nf [keyX t p])) = 0 ∧ fndL A (wrS false 0 3 (askQ lvl nf [keyX t p])) = (NS.filter fit).map (fun s => wrS false 0 3 (X s)) ∧ NS.length ≤ 48 ∧
      ∀ s ∈ NS, errS 3 0 (X s) = 0 ∧ (wrS false 0 3 (X s)).length ≤ 16384 ∧ (X s).length ≤ 24 ∧ textE (n := 2) (X s) t = V s ∧ (V s).length ≤ 64 ∧ matchV (kindT t) p (V s) = fit s ∧ matchE (kindT t) p (V s) = 0 := by
  have kx := keyX_ok (lvl := lvl) ht hr hn hp hl
  have k0 := keyX_ok (lvl := lvl) (p := []) ht hr hn (by decide) (by simp)
  have hce := chk_empty t ht
  obtain ⟨a1, a2, _, _⟩ := ask_answers (A := A) hG hlv hnf kx (fun x hx => by rw [List.mem_singleton.1 hx]; exact hm)
  obtain ⟨_, _, b3, b4⟩ := ask_answers (A := A) hG hlv hnf k0 (fun x hx => by rw [List.mem_singleton.1 hx]; exact match_nil t ht)
  refine ⟨(namesF (n := 1) A lvl (askQ lvl nf [keyX t []])).mergeSort Go.leB, fun s => (askQ lvl nf [keyX t []]).map (ansE (gS (n := 1) A lvl s)), fun s => matchV (kindT t) p (valG (gS (n := 1) A lvl s) t), fun s => valG (gS (n := 1) A lvl s) t, rfl, a1, ?_, ?_, fun s hs => ?_⟩
  · rw [a2]
    unfold ansS
    rw [sieve hG hlv hnf ht hr hn hp hl, List.map_map]
    refine List.map_congr_left (fun s _ => ?_)
    show wrS false 0 3 ((askQ lvl nf [keyX t p]).map (ansE (gS (n := 1) A lvl s))) = _
    rw [ans_same h5 hn p]
  · unfold ansS at b3
    rwa [List.length_map] at b3
  · have hmem := b4 ((askQ lvl nf [keyX t []]).map (ansE (gS (n := 1) A lvl s))) (by unfold ansS; exact List.mem_map_of_mem hs)
    have hs' := (namesF_mem.1 (List.mem_mergeSort.1 hs)).1
    obtain ⟨hlm, _⟩ := lastA_mem (n := 2) hs'
    have hc : chk (kindT t) (valG (gS (n := 1) A lvl s) t) = 0 := tell_chk hG.1 (hG.2.2 _ hlm).2 ht
    have hxm : keyX t [] ∈ askQ lvl nf [keyX t []] := askQ_mem.2 (Or.inr (Or.inr List.mem_cons_self))
    refine ⟨hmem.1, hmem.2, ?_, find_ans (t := t) (askQ_find hlv k0 hxm), (goodG_of hG hs' t).1, rfl, match_val hce hm hc⟩
    rw [List.length_map]
    have := (askQ_err hlv hnf k0).2.2
    omega
end Go.Proofs.YtaokifbpakbgdaaGreatDoor

/- Package foliokeep: Filtered: its keys, laid out. -/
namespace Go.Proofs.YtaokifbpakbgdaaGreatDoor
open Go.RowKit
theorem arr4' {xs : Array Value} (h : xs.size = 4) : ∃ x0 x1 x2 x3, xs = #[x0, x1, x2, x3] := by
  obtain ⟨l⟩ := xs
  match l, h with
  | [x0, x1, x2, x3], _ => exact ⟨x0, x1, x2, x3, rfl⟩
theorem cls_set4 {w : World} {b : Nat} {T : TypeId} {x0 x1 x2 x3 : Value} (h : cls w b #[x0, x1, x2, x3] T) (u0 u1 u2 u3 : Value) : cls ((((w.setCell ⟨b, 0, none⟩ u0).setCell ⟨b, 1, none⟩ u1).setCell ⟨b, 2, none⟩ u2).setCell ⟨b, 3, none⟩ u3) b #[u0, u1, u2, u3] T :=
  set_block (set_block (set_block (set_block h u0) u1) u2) u3
/-- The keys of each level, laid out. -/
def KeysAt (W : World) (kb N : Nat) : Prop := ∀ q, q < 4 → W.cell? ⟨kb, q, none⟩ = some (.slice (some ⟨N + q, 0, none⟩) (keysF.getD q []).length (keysF.getD q []).length) ∧ ∀ (j : Nat) (t : Int), (keysF.getD q [])[j]? = some t → W.cell? ⟨N + q, j * 4, none⟩ = some (.int .i64 t) ∧ W.cell? ⟨N + q, j * 4 + 1, none⟩ = some (.string (bs (kindT t))) ∧ W.cell? ⟨N + q, j * 4 + 2, none⟩ = some (.string (bs [])) ∧ W.cell? ⟨N + q, j * 4 + 3, none⟩ = some (.slice none 0 0)
theorem keys_at (w : World) : KeysAt (((((w.alloc (.cells #[.int .i64 1048592, .string ⟨#[80, 78]⟩, .string ⟨#[]⟩, .slice none 0 0, .int .i64 1048608, .string ⟨#[76, 79]⟩, .string ⟨#[]⟩, .slice none 0 0, .int .i64 2101760, .string ⟨#[73, 83]⟩, .string ⟨#[]⟩, .slice none 0 0] 73)).alloc (.cells #[.int .i64 524320, .string ⟨#[68, 65]⟩, .string ⟨#[]⟩, .slice none 0 0, .int .i64 524336, .string ⟨#[84, 77]⟩, .string ⟨#[]⟩, .slice none 0 0, .int .i64 2097165, .string ⟨#[85, 73]⟩, .string ⟨#[]⟩, .slice none 0 0, .int .i64 2101766, .string ⟨#[73, 83]⟩, .string ⟨#[]⟩, .slice none 0 0] 73)).alloc (.cells #[.int .i64 524384, .string ⟨#[67, 83]⟩, .string ⟨#[]⟩, .slice none 0 0, .int .i64 2097169, .string ⟨#[73, 83]⟩, .string ⟨#[]⟩, .slice none 0 0, .int .i64 2101769, .string ⟨#[73, 83]⟩, .string ⟨#[]⟩, .slice none 0 0] 73)).alloc (.cells #[.int .i64 2097171, .string ⟨#[73, 83]⟩, .string ⟨#[]⟩, .slice none 0 0, .int .i64 524312, .string ⟨#[85, 73]⟩, .string ⟨#[]⟩, .slice none 0 0] 73)).alloc (.cells #[.slice (some ⟨w.heap.size, 0, none⟩) 3 3, .slice (some ⟨w.heap.size + 1, 0, none⟩) 4 4, .slice (some ⟨w.heap.size + 1 + 1, 0, none⟩) 3 3, .slice (some ⟨w.heap.size + 1 + 1 + 1, 0, none⟩) 2 2] 59)) (w.heap.size + 1 + 1 + 1 + 1) w.heap.size ∧ Below w.heap.size w (((((w.alloc (.cells #[.int .i64 1048592, .string ⟨#[80, 78]⟩, .string ⟨#[]⟩, .slice none 0 0, .int .i64 1048608, .string ⟨#[76, 79]⟩, .string ⟨#[]⟩, .slice none 0 0, .int .i64 2101760, .string ⟨#[73, 83]⟩, .string ⟨#[]⟩, .slice none 0 0] 73)).alloc (.cells #[.int .i64 524320, .string ⟨#[68, 65]⟩, .string ⟨#[]⟩, .slice none 0 0, .int .i64 524336, .string ⟨#[84, 77]⟩, .string ⟨#[]⟩, .slice none 0 0, .int .i64 2097165, .string ⟨#[85, 73]⟩, .string ⟨#[]⟩, .slice none 0 0, .int .i64 2101766, .string ⟨#[73, 83]⟩, .string ⟨#[]⟩, .slice none 0 0] 73)).alloc (.cells #[.int .i64 524384, .string ⟨#[67, 83]⟩, .string ⟨#[]⟩, .slice none 0 0, .int .i64 2097169, .string ⟨#[73, 83]⟩, .string ⟨#[]⟩, .slice none 0 0, .int .i64 2101769, .string ⟨#[73, 83]⟩, .string ⟨#[]⟩, .slice none 0 0] 73)).alloc (.cells #[.int .i64 2097171, .string ⟨#[73, 83]⟩, .string ⟨#[]⟩, .slice none 0 0, .int .i64 524312, .string ⟨#[85, 73]⟩, .string ⟨#[]⟩, .slice none 0 0] 73)).alloc (.cells #[.slice (some ⟨w.heap.size, 0, none⟩) 3 3, .slice (some ⟨w.heap.size + 1, 0, none⟩) 4 4, .slice (some ⟨w.heap.size + 1 + 1, 0, none⟩) 3 3, .slice (some ⟨w.heap.size + 1 + 1 + 1, 0, none⟩) 2 2] 59)) := by
  have k0 : cls (w.alloc (.cells #[.int .i64 1048592, .string ⟨#[80, 78]⟩, .string ⟨#[]⟩, .slice none 0 0, .int .i64 1048608, .string ⟨#[76, 79]⟩, .string ⟨#[]⟩, .slice none 0 0, .int .i64 2101760, .string ⟨#[73, 83]⟩, .string ⟨#[]⟩, .slice none 0 0] 73)) w.heap.size #[.int .i64 1048592, .string ⟨#[80, 78]⟩, .string ⟨#[]⟩, .slice none 0 0, .int .i64 1048608, .string ⟨#[76, 79]⟩, .string ⟨#[]⟩, .slice none 0 0, .int .i64 2101760, .string ⟨#[73, 83]⟩, .string ⟨#[]⟩, .slice none 0 0] 73 := heap_alloc_new _ _
  have z1 : (w.alloc (.cells #[.int .i64 1048592, .string ⟨#[80, 78]⟩, .string ⟨#[]⟩, .slice none 0 0, .int .i64 1048608, .string ⟨#[76, 79]⟩, .string ⟨#[]⟩, .slice none 0 0, .int .i64 2101760, .string ⟨#[73, 83]⟩, .string ⟨#[]⟩, .slice none 0 0] 73)).heap.size = w.heap.size + 1 := World.size_alloc _ _
  have b1 := Below.alloc (Below.refl w.heap.size w) (Nat.le_refl _) (.cells #[.int .i64 1048592, .string ⟨#[80, 78]⟩, .string ⟨#[]⟩, .slice none 0 0, .int .i64 1048608, .string ⟨#[76, 79]⟩, .string ⟨#[]⟩, .slice none 0 0, .int .i64 2101760, .string ⟨#[73, 83]⟩, .string ⟨#[]⟩, .slice none 0 0] 73)
  generalize w.alloc (.cells #[.int .i64 1048592, .string ⟨#[80, 78]⟩, .string ⟨#[]⟩, .slice none 0 0, .int .i64 1048608, .string ⟨#[76, 79]⟩, .string ⟨#[]⟩, .slice none 0 0, .int .i64 2101760, .string ⟨#[73, 83]⟩, .string ⟨#[]⟩, .slice none 0 0] 73) = w1 at k0 z1 b1 ⊢
  have k1 : cls (w1.alloc (.cells #[.int .i64 524320, .string ⟨#[68, 65]⟩, .string ⟨#[]⟩, .slice none 0 0, .int .i64 524336, .string ⟨#[84, 77]⟩, .string ⟨#[]⟩, .slice none 0 0, .int .i64 2097165, .string ⟨#[85, 73]⟩, .string ⟨#[]⟩, .slice none 0 0, .int .i64 2101766, .string ⟨#[73, 83]⟩, .string ⟨#[]⟩, .slice none 0 0] 73)) (w.heap.size + 1) #[.int .i64 524320, .string ⟨#[68, 65]⟩, .string ⟨#[]⟩, .slice none 0 0, .int .i64 524336, .string ⟨#[84, 77]⟩, .string ⟨#[]⟩, .slice none 0 0, .int .i64 2097165, .string ⟨#[85, 73]⟩, .string ⟨#[]⟩, .slice none 0 0, .int .i64 2101766, .string ⟨#[73, 83]⟩, .string ⟨#[]⟩, .slice none 0 0] 73 := by rw [← z1]; exact heap_alloc_new _ _
  have z2 : (w1.alloc (.cells #[.int .i64 524320, .string ⟨#[68, 65]⟩, .string ⟨#[]⟩, .slice none 0 0, .int .i64 524336, .string ⟨#[84, 77]⟩, .string ⟨#[]⟩, .slice none 0 0, .int .i64 2097165, .string ⟨#[85, 73]⟩, .string ⟨#[]⟩, .slice none 0 0, .int .i64 2101766, .string ⟨#[73, 83]⟩, .string ⟨#[]⟩, .slice none 0 0] 73)).heap.size = w.heap.size + 1 + 1 := by rw [World.size_alloc, z1]
  have b2 := Below.alloc (Below.refl w1.heap.size w1) (Nat.le_refl _) (.cells #[.int .i64 524320, .string ⟨#[68, 65]⟩, .string ⟨#[]⟩, .slice none 0 0, .int .i64 524336, .string ⟨#[84, 77]⟩, .string ⟨#[]⟩, .slice none 0 0, .int .i64 2097165, .string ⟨#[85, 73]⟩, .string ⟨#[]⟩, .slice none 0 0, .int .i64 2101766, .string ⟨#[73, 83]⟩, .string ⟨#[]⟩, .slice none 0 0] 73)
  generalize w1.alloc (.cells #[.int .i64 524320, .string ⟨#[68, 65]⟩, .string ⟨#[]⟩, .slice none 0 0, .int .i64 524336, .string ⟨#[84, 77]⟩, .string ⟨#[]⟩, .slice none 0 0, .int .i64 2097165, .string ⟨#[85, 73]⟩, .string ⟨#[]⟩, .slice none 0 0, .int .i64 2101766, .string ⟨#[73, 83]⟩, .string ⟨#[]⟩, .slice none 0 0] 73) = w2 at k1 z2 b2 ⊢
  have k2 : cls (w2.alloc (.cells #[.int .i64 524384, .string ⟨#[67, 83]⟩, .string ⟨#[]⟩, .slice none 0 0, .int .i64 2097169, .string ⟨#[73, 83]⟩, .string ⟨#[]⟩, .slice none 0 0, .int .i64 2101769, .string ⟨#[73, 83]⟩, .string ⟨#[]⟩, .slice none 0 0] 73)) (w.heap.size + 1 + 1) #[.int .i64 524384, .string ⟨#[67, 83]⟩, .string ⟨#[]⟩, .slice none 0 0, .int .i64 2097169, .string ⟨#[73, 83]⟩, .string ⟨#[]⟩, .slice none 0 0, .int .i64 2101769, .string ⟨#[73, 83]⟩, .string ⟨#[]⟩, .slice none 0 0] 73 := by rw [← z2]; exact heap_alloc_new _ _
  have z3 : (w2.alloc (.cells #[.int .i64 524384, .string ⟨#[67, 83]⟩, .string ⟨#[]⟩, .slice none 0 0, .int .i64 2097169, .string ⟨#[73, 83]⟩, .string ⟨#[]⟩, .slice none 0 0, .int .i64 2101769, .string ⟨#[73, 83]⟩, .string ⟨#[]⟩, .slice none 0 0] 73)).heap.size = w.heap.size + 1 + 1 + 1 := by rw [World.size_alloc, z2]
  have b3 := Below.alloc (Below.refl w2.heap.size w2) (Nat.le_refl _) (.cells #[.int .i64 524384, .string ⟨#[67, 83]⟩, .string ⟨#[]⟩, .slice none 0 0, .int .i64 2097169, .string ⟨#[73, 83]⟩, .string ⟨#[]⟩, .slice none 0 0, .int .i64 2101769, .string ⟨#[73, 83]⟩, .string ⟨#[]⟩, .slice none 0 0] 73)
  generalize w2.alloc (.cells #[.int .i64 524384, .string ⟨#[67, 83]⟩, .string ⟨#[]⟩, .slice none 0 0, .int .i64 2097169, .string ⟨#[73, 83]⟩, .string ⟨#[]⟩, .slice none 0 0, .int .i64 2101769, .string ⟨#[73, 83]⟩, .string ⟨#[]⟩, .slice none 0 0] 73) = w3 at k2 z3 b3 ⊢
  have k3 : cls (w3.alloc (.cells #[.int .i64 2097171, .string ⟨#[73, 83]⟩, .string ⟨#[]⟩, .slice none 0 0, .int .i64 524312, .string ⟨#[85, 73]⟩, .string ⟨#[]⟩, .slice none 0 0] 73)) (w.heap.size + 1 + 1 + 1) #[.int .i64 2097171, .string ⟨#[73, 83]⟩, .string ⟨#[]⟩, .slice none 0 0, .int .i64 524312, .string ⟨#[85, 73]⟩, .string ⟨#[]⟩, .slice none 0 0] 73 := by rw [← z3]; exact heap_alloc_new _ _
  have z4 : (w3.alloc (.cells #[.int .i64 2097171, .string ⟨#[73, 83]⟩, .string ⟨#[]⟩, .slice none 0 0, .int .i64 524312, .string ⟨#[85, 73]⟩, .string ⟨#[]⟩, .slice none 0 0] 73)).heap.size = w.heap.size + 1 + 1 + 1 + 1 := by rw [World.size_alloc, z3]
  have b4 := Below.alloc (Below.refl w3.heap.size w3) (Nat.le_refl _) (.cells #[.int .i64 2097171, .string ⟨#[73, 83]⟩, .string ⟨#[]⟩, .slice none 0 0, .int .i64 524312, .string ⟨#[85, 73]⟩, .string ⟨#[]⟩, .slice none 0 0] 73)
  generalize w3.alloc (.cells #[.int .i64 2097171, .string ⟨#[73, 83]⟩, .string ⟨#[]⟩, .slice none 0 0, .int .i64 524312, .string ⟨#[85, 73]⟩, .string ⟨#[]⟩, .slice none 0 0] 73) = w4 at k3 z4 b4 ⊢
  have k4 : cls (w4.alloc (.cells #[.slice (some ⟨w.heap.size, 0, none⟩) 3 3, .slice (some ⟨w.heap.size + 1, 0, none⟩) 4 4, .slice (some ⟨w.heap.size + 1 + 1, 0, none⟩) 3 3, .slice (some ⟨w.heap.size + 1 + 1 + 1, 0, none⟩) 2 2] 59)) (w.heap.size + 1 + 1 + 1 + 1) #[.slice (some ⟨w.heap.size, 0, none⟩) 3 3, .slice (some ⟨w.heap.size + 1, 0, none⟩) 4 4, .slice (some ⟨w.heap.size + 1 + 1, 0, none⟩) 3 3, .slice (some ⟨w.heap.size + 1 + 1 + 1, 0, none⟩) 2 2] 59 := by rw [← z4]; exact heap_alloc_new _ _
  have b5 := Below.alloc (Below.refl w4.heap.size w4) (Nat.le_refl _) (.cells #[.slice (some ⟨w.heap.size, 0, none⟩) 3 3, .slice (some ⟨w.heap.size + 1, 0, none⟩) 4 4, .slice (some ⟨w.heap.size + 1 + 1, 0, none⟩) 3 3, .slice (some ⟨w.heap.size + 1 + 1 + 1, 0, none⟩) 2 2] 59)
  generalize w4.alloc (.cells #[.slice (some ⟨w.heap.size, 0, none⟩) 3 3, .slice (some ⟨w.heap.size + 1, 0, none⟩) 4 4, .slice (some ⟨w.heap.size + 1 + 1, 0, none⟩) 3 3, .slice (some ⟨w.heap.size + 1 + 1 + 1, 0, none⟩) 2 2] 59) = w5 at k4 b5 ⊢
  have k0 := (((k0.up b2).up b3).up b4).up b5
  have k1 := ((k1.up b3).up b4).up b5
  have k2 := (k2.up b4).up b5
  have k3 := k3.up b5
  refine ⟨fun q hq => ?_, (((b1.trans (b2.mono b1.size)).trans (b3.mono (by omega))).trans (b4.mono (by omega))).trans (b5.mono (by omega))⟩
  rcases (show q = 0 ∨ q = 1 ∨ q = 2 ∨ q = 3 by omega) with rfl | rfl | rfl | rfl
  · refine ⟨k4.at rfl, fun j t hj => ?_⟩
    have hjl : j < 3 := (List.getElem?_eq_some_iff.1 hj).1
    rcases (show j = 0 ∨ j = 1 ∨ j = 2 by omega) with rfl | rfl | rfl <;> (obtain rfl := Option.some.inj hj; exact ⟨k0.at rfl, k0.at rfl, k0.at rfl, k0.at rfl⟩)
  · refine ⟨k4.at rfl, fun j t hj => ?_⟩
    have hjl : j < 4 := (List.getElem?_eq_some_iff.1 hj).1
    rcases (show j = 0 ∨ j = 1 ∨ j = 2 ∨ j = 3 by omega) with rfl | rfl | rfl | rfl <;> (obtain rfl := Option.some.inj hj; exact ⟨k1.at rfl, k1.at rfl, k1.at rfl, k1.at rfl⟩)
  · refine ⟨k4.at rfl, fun j t hj => ?_⟩
    have hjl : j < 3 := (List.getElem?_eq_some_iff.1 hj).1
    rcases (show j = 0 ∨ j = 1 ∨ j = 2 by omega) with rfl | rfl | rfl <;> (obtain rfl := Option.some.inj hj; exact ⟨k2.at rfl, k2.at rfl, k2.at rfl, k2.at rfl⟩)
  · refine ⟨k4.at rfl, fun j t hj => ?_⟩
    have hjl : j < 2 := (List.getElem?_eq_some_iff.1 hj).1
    rcases (show j = 0 ∨ j = 1 by omega) with rfl | rfl <;> (obtain rfl := Option.some.inj hj; exact ⟨k3.at rfl, k3.at rfl, k3.at rfl, k3.at rfl⟩)
end Go.Proofs.YtaokifbpakbgdaaGreatDoor
