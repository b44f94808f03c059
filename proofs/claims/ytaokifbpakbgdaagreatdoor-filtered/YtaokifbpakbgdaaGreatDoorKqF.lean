/-
  A query is a sieve (no program in it).
-/
import Derived.Test.YtaokifbpakbgdaaGreatDoorPut18
namespace Go.Proofs.YtaokifbpakbgdaaGreatDoor
open Go.RowKit
theorem sort_filter (p : By → Bool) (L : List By) : (L.filter p).mergeSort Go.leB = (L.mergeSort Go.leB).filter p := by
  have hs : (L.mergeSort Go.leB).Pairwise (fun a b => Go.leB a b = true) := List.pairwise_mergeSort (fun a b c h1 h2 => by simp only [Go.leB, decide_eq_true_eq] at h1 h2 ⊢; exact List.le_trans h1 h2) (fun a b => by simp only [Go.leB, Bool.or_eq_true, decide_eq_true_eq]; exact List.le_total a b) L
  rw [← mergeSort_of_perm ((List.mergeSort_perm L Go.leB).filter p)]
  exact List.mergeSort_of_pairwise (hs.filter p)
theorem sink_map {n : Nat} {h : El (n + 1) → El (n + 1)} (hh : ∀ z, (h z).1 = z.1) (o : List (El (n + 1))) (t : Int) : ∀ k, sink (o.map h) t k = sink o t k
  | 0 => rfl
  | k + 1 => by
    rw [sink, sink, List.getElem?_map]
    cases o[k]? with
    | none => rfl
    | some y =>
      show (if t < (h y).1 then sink (o.map h) t k else k + 1) = if t < y.1 then sink o t k else k + 1
      rw [hh, sink_map hh o t k]
theorem insE_map {n : Nat} {h : El (n + 1) → El (n + 1)} (hh : ∀ z, (h z).1 = z.1) (o : List (El (n + 1))) (x : El (n + 1)) : insE (o.map h) (h x) = (insE o x).map h := by
  unfold insE
  rw [hh, List.length_map, sink_map hh, List.map_append, List.map_cons, List.map_take, List.map_drop]
theorem fold_map {n : Nat} {h : El (n + 1) → El (n + 1)} (hh : ∀ z, (h z).1 = z.1) : ∀ (l o : List (El (n + 1))), (l.map h).foldl insE (o.map h) = (l.foldl insE o).map h
  | [], o => rfl
  | x :: l, o => by
    rw [List.map_cons, List.foldl_cons, List.foldl_cons, insE_map hh]
    exact fold_map hh l (insE o x)
theorem srtE_map {n : Nat} {h : El (n + 1) → El (n + 1)} (hh : ∀ z, (h z).1 = z.1) (l : List (El (n + 1))) : srtE (l.map h) = (srtE l).map h := fold_map hh l []
/-- A key of a query, without a value and with one. -/
def keyX (t : Int) (p : By) : El 3 := flE 2 t (kindT t) p
theorem keyX_ok {lvl : Nat} {t : Int} {p : By} (ht : t ∈ tagsQ) (hr : rowT t ≤ lvl) (hn : ∀ i, i < lvl → t ≠ nameT i) (hp : p.length ≤ 64) (hl : p.getLast? ≠ some (padB (kindT t))) : XOk lvl [keyX t p] :=
  ⟨by show 1 ≤ 8; decide, by simp [keyX], fun x hx => by rw [List.mem_singleton.1 hx]; exact ⟨t, p, rfl, ht, hr, hn, hp, hl⟩⟩
def valX (t : Int) (p : By) (z : El 3) : El 3 := (t, z.2.1, p, z.2.2.2)
def putV (t : Int) (p : By) (z : El 3) : El 3 := if z.1 = t then valX t p z else z
theorem putV_pos {t : Int} {p : By} {z : El 3} (e : z.1 = t) : putV t p z = valX t p z := if_pos e
theorem putV_neg {t : Int} {p : By} {z : El 3} (e : ¬ z.1 = t) : putV t p z = z := if_neg e
theorem putV_tag (t : Int) (p : By) (z : El 3) : (putV t p z).1 = z.1 := by
  by_cases e : z.1 = t
  · rw [putV_pos e]; exact e.symm
  · rw [putV_neg e]
theorem putV_ans (t : Int) (p : By) (g : Int → Option (El 3)) (z : El 3) : ansE (n := 1) g (putV t p z) = ansE (n := 1) g z := by
  by_cases e : z.1 = t
  · rw [putV_pos e]
    subst e
    rfl
  · rw [putV_neg e]
/-- The answers' elements are the same, whatever is asked of the key. -/
theorem ans_same {lvl : Nat} {nf : Nat → By} {t : Int} (ht : t ≠ 524370) (hn : ∀ i, i < lvl → t ≠ nameT i) (p : By) (g : Int → Option (El 3)) : (askQ lvl nf [keyX t p]).map (ansE (n := 1) g) = (askQ lvl nf [keyX t []]).map (ansE (n := 1) g) := by
  have hl : askL lvl nf [keyX t p] = (askL lvl nf [keyX t []]).map (putV t p) := by
    unfold askL
    rw [List.map_cons, List.map_append, List.map_map]
    have h1 : putV t p (flE 2 524370 [67, 83] (wordL lvl)) = flE 2 524370 [67, 83] (wordL lvl) := putV_neg (fun e : (524370 : Int) = t => ht e.symm)
    have h2 : (List.range lvl).map (putV t p ∘ fun i => flE 2 (nameT i) (kindT (nameT i)) (nf i)) = (List.range lvl).map (fun i => flE 2 (nameT i) (kindT (nameT i)) (nf i)) := List.map_congr_left (fun i hi => putV_neg (fun e : nameT i = t => hn i (List.mem_range.1 hi) e.symm))
    have h3 : [keyX t []].map (putV t p) = [keyX t p] := by
      rw [List.map_singleton]
      exact congrArg (fun z => [z]) (putV_pos (t := t) (p := p) (z := keyX t []) rfl)
    rw [h1, h2, h3]
  unfold askQ
  rw [hl, srtE_map (n := 2) (putV_tag t p), List.map_map]
  exact List.map_congr_left (fun z _ => putV_ans t p g z)
/-- What is answered of a pattern: what fits it, of what is answered without. -/
theorem sieve {A : List (List (El 3))} (hG : Good (n := 1) A) {lvl : Nat} (hlv : lvl < 4) {nf : Nat → By} (hnf : NfOk lvl nf) {t : Int} (ht : t ∈ tagsQ) (hr : rowT t ≤ lvl) (hn : ∀ i, i < lvl → t ≠ nameT i) {p : By} (hp : p.length ≤ 64) (hl : p.getLast? ≠ some (padB (kindT t))) :
    (namesF (n := 1) A lvl (askQ lvl nf [keyX t p])).mergeSort Go.leB = ((namesF (n := 1) A lvl (askQ lvl nf [keyX t []])).mergeSort Go.leB).filter (fun s => matchV (kindT t) p (valG (gS (n := 1) A lvl s) t)) := by
  rw [← sort_filter]
  congr 1
  unfold namesF
  rw [List.filter_filter]
  refine List.filter_congr (fun s hs => ?_)
  have hs' : ∃ l ∈ A, nm (n := 2) lvl l = s := by
    rcases (seenA_mem lvl s A []).1 hs with h | h
    · cases h
    · exact h
  obtain ⟨hm, _⟩ := lastA_mem (n := 2) hs'
  have hc : chk (kindT t) (valG (gS (n := 1) A lvl s) t) = 0 := tell_chk hG.1 (hG.2.2 _ hm).2 ht
  rw [Bool.eq_iff_iff, Bool.and_eq_true, fit_ask hG hlv hnf (keyX_ok ht hr hn hp hl) hs', fit_ask hG hlv hnf (keyX_ok ht hr hn (by decide) (by simp)) hs']
  constructor
  · rintro ⟨h1, h2⟩
    exact ⟨h2 _ List.mem_cons_self, h1, fun x hx => by rw [List.mem_singleton.1 hx]; exact match_empty hc⟩
  · rintro ⟨h1, h2, _⟩
    exact ⟨h2, fun x hx => by rw [List.mem_singleton.1 hx]; exact h1⟩
theorem pads : ∀ t ∈ tagsQ, padB (kindT t) = 32 ∨ padB (kindT t) = 0 := by decide
/-- The keys that are asked for, of each level. -/
def keysF : List (List Int) := [[1048592, 1048608, 2101760], [524320, 524336, 2097165, 2101766], [524384, 2097169, 2101769], [2097171, 524312]]
theorem keysF_ok : ∀ lvl, lvl < 4 → ∀ t ∈ keysF.getD lvl [], t ∈ tagsQ ∧ t ≠ 524370 ∧ rowT t ≤ lvl ∧ ∀ i, i < lvl → t ≠ nameT i := by decide
theorem match_two {k p : By} (h : chk k [] = 0) : matchE k p [] = 0 ∨ matchE k p [] = 12 := by
  unfold matchE
  rw [if_neg (fun e => e h)]
  by_cases h1 : p = []
  · rw [if_pos h1]; exact Or.inl rfl
  · rw [if_neg h1]
    by_cases h2 : isPatB k p = true
    · rw [if_pos h2]; exact Or.inl rfl
    · rw [if_neg h2]; exact Or.inr rfl
theorem match_val {k p v : By} (h : chk k [] = 0) (hp : matchE k p [] = 0) (hv : chk k v = 0) : matchE k p v = 0 := by
  unfold matchE at hp ⊢
  rw [if_neg (fun e => e h)] at hp
  rw [if_neg (fun e => e hv)]
  exact hp
end Go.Proofs.YtaokifbpakbgdaaGreatDoor
