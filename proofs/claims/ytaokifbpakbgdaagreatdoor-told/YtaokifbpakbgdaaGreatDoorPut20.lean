/-
  Several texts in one; what each one has stands at its head.
-/
import Derived.Test.YtaokifbpakbgdaaGreatDoorPut18
import Derived.Test.YtaokifbpakbgdaaGreatDoorPut14
import Derived.Test.YtaokifbpakbgdaaGreatDoorPut19
/- What is told: the names below something, rising, each with what was laid in last (no program in it). -/
namespace Go.Proofs.YtaokifbpakbgdaaGreatDoor
open Go.RowKit
def AbvOk (lvl : Nat) (ab : By) (o : List (El 3)) : Prop := lvl = 0 ∨ nm (n := 2) (lvl - 1) o = ab
/-- The names of a level among the first k, each once, rising. -/
def ThereL (A : List (List (El 3))) (lvl : Nat) (ab : By) (k : Nat) (L : List By) : Prop := L.Pairwise (fun a b => Op.bytesLess a b = true) ∧ (∀ s, s ∈ L ↔ ∃ o ∈ A.take k, AbvOk lvl ab o ∧ nm (n := 2) lvl o = s) ∧ L.length ≤ k
theorem ThereL.zero (A : List (List (El 3))) (lvl : Nat) (ab : By) : ThereL A lvl ab 0 [] := ⟨List.Pairwise.nil, fun s => by simp, Nat.le_refl _⟩
theorem take_mem {α : Type} {A : List α} {k : Nat} {o x : α} (ho : A[k]? = some o) : x ∈ A.take (k + 1) ↔ x ∈ A.take k ∨ x = o := by
  rw [List.take_add_one, ho, List.mem_append]
  simp
theorem ThereL.skip {A : List (List (El 3))} {lvl : Nat} {ab : By} {k : Nat} {L : List By} (h : ThereL A lvl ab k L) {o : List (El 3)} (ho : A[k]? = some o) (hn : ¬ AbvOk lvl ab o) : ThereL A lvl ab (k + 1) L := by
  refine ⟨h.1, fun s => ?_, Nat.le_succ_of_le h.2.2⟩
  rw [h.2.1 s]
  constructor
  · rintro ⟨x, hx, h1, h2⟩
    exact ⟨x, (take_mem ho).2 (Or.inl hx), h1, h2⟩
  · rintro ⟨x, hx, h1, h2⟩
    rcases (take_mem ho).1 hx with hx | rfl
    · exact ⟨x, hx, h1, h2⟩
    · exact absurd h1 hn
theorem ThereL.known {A : List (List (El 3))} {lvl : Nat} {ab : By} {k : Nat} {L : List By} (h : ThereL A lvl ab k L) {o : List (El 3)} (ho : A[k]? = some o) (hm : nm (n := 2) lvl o ∈ L) : ThereL A lvl ab (k + 1) L := by
  refine ⟨h.1, fun s => ?_, Nat.le_succ_of_le h.2.2⟩
  rw [h.2.1 s]
  constructor
  · rintro ⟨x, hx, h1, h2⟩
    exact ⟨x, (take_mem ho).2 (Or.inl hx), h1, h2⟩
  · rintro ⟨x, hx, h1, h2⟩
    rcases (take_mem ho).1 hx with hx | rfl
    · exact ⟨x, hx, h1, h2⟩
    · rw [← h2]
      exact (h.2.1 _).1 hm
theorem less_iff {a b : By} : Op.bytesLess a b = true ↔ a < b := by rw [bytesLess_eq, decide_eq_true_eq]
theorem less_trans {a b c : By} (h1 : Op.bytesLess a b = true) (h2 : Op.bytesLess b c = true) : Op.bytesLess a c = true := less_iff.2 (List.lt_trans (less_iff.1 h1) (less_iff.1 h2))
theorem less_irr (a : By) : ¬ Op.bytesLess a a = true := fun h => List.lt_irrefl a (less_iff.1 h)
theorem less_le {a b : By} (h : Op.bytesLess a b = true) : a ≤ b := fun h' => less_irr a (less_trans h (less_iff.2 h'))
theorem less_tri {a b : By} (h1 : ¬ Op.bytesLess a b = true) (h2 : a ≠ b) : Op.bytesLess b a = true := by
  rw [less_iff] at h1 ⊢
  rcases List.le_total a b with h | h
  · exact absurd (List.le_antisymm h (fun h' => h1 h')) h2
  · by_cases h3 : b < a
    · exact h3
    · exact absurd (List.le_antisymm (fun h' => h3 h') (fun h' => h1 h')) h2
/-- A name more, at its place. -/
theorem ThereL.more {A : List (List (El 3))} {lvl : Nat} {ab : By} {k : Nat} {L : List By} (h : ThereL A lvl ab k L) {o : List (El 3)} (ho : A[k]? = some o) (ha : AbvOk lvl ab o) {j : Nat} (hj : j ≤ L.length)
    (h1 : ∀ x ∈ L.take j, Op.bytesLess x (nm (n := 2) lvl o) = true) (h2 : ∀ x, L[j]? = some x → ¬ Op.bytesLess x (nm (n := 2) lvl o) = true ∧ x ≠ nm (n := 2) lvl o) : ThereL A lvl ab (k + 1) (L.take j ++ nm (n := 2) lvl o :: L.drop j) := by
  have hd : ∀ x ∈ L.drop j, Op.bytesLess (nm (n := 2) lvl o) x = true := fun x hx => by
    have hlt : j < L.length := by
      rcases Nat.lt_or_ge j L.length with h | h
      · exact h
      · rw [List.drop_eq_nil_of_le h] at hx; cases hx
    obtain ⟨p1, p2⟩ := h2 _ (List.getElem?_eq_getElem hlt)
    have h0 := less_tri p1 p2
    rw [List.drop_eq_getElem_cons hlt] at hx
    rcases List.mem_cons.1 hx with rfl | hx
    · exact h0
    · have hp : (L.drop j).Pairwise (fun a b => Op.bytesLess a b = true) := h.1.sublist (List.drop_sublist _ _)
      rw [List.drop_eq_getElem_cons hlt] at hp
      exact less_trans h0 ((List.pairwise_cons.1 hp).1 x hx)
  refine ⟨?_, fun s => ?_, ?_⟩
  · rw [List.pairwise_append, List.pairwise_cons]
    refine ⟨h.1.sublist (List.take_sublist _ _), ⟨hd, h.1.sublist (List.drop_sublist _ _)⟩, fun x hx y hy => ?_⟩
    rcases List.mem_cons.1 hy with rfl | hy
    · exact h1 x hx
    · exact less_trans (h1 x hx) (hd y hy)
  · have hL : s ∈ L ↔ s ∈ L.take j ∨ s ∈ L.drop j := by rw [← List.mem_append, List.take_append_drop]
    rw [List.mem_append, List.mem_cons]
    constructor
    · intro hs
      have : s ∈ L ∨ s = nm (n := 2) lvl o := by
        rcases hs with hs | rfl | hs
        · exact Or.inl (hL.2 (Or.inl hs))
        · exact Or.inr rfl
        · exact Or.inl (hL.2 (Or.inr hs))
      rcases this with hs | rfl
      · obtain ⟨x, hx, p1, p2⟩ := (h.2.1 s).1 hs
        exact ⟨x, (take_mem ho).2 (Or.inl hx), p1, p2⟩
      · exact ⟨o, (take_mem ho).2 (Or.inr rfl), ha, rfl⟩
    · rintro ⟨x, hx, p1, p2⟩
      rcases (take_mem ho).1 hx with hx | rfl
      · rcases hL.1 ((h.2.1 s).2 ⟨x, hx, p1, p2⟩) with hs | hs
        · exact Or.inl hs
        · exact Or.inr (Or.inr hs)
      · exact Or.inr (Or.inl p2.symm)
  · rw [List.length_append, List.length_cons, List.length_take, List.length_drop, Nat.min_eq_left hj]
    have := h.2.2
    omega
/-- What is asked for of each level besides its name. -/
def ownT (lvl : Nat) : List Int := if lvl = 0 then [1048592] else if lvl = 1 then [524320, 524336, 524368, 1048592] else if lvl = 2 then [524384, 2097169, 524320] else [2097171, 524384]
def toldX (lvl k : Nat) : List (El 3) := flE 2 (nameT lvl) (kindT (nameT lvl)) [] :: ((ownT lvl).take k).map (fun t => flE 2 t (kindT t) [])
theorem ownT_ok : ∀ lvl, lvl < 4 → (ownT lvl).length ≤ 4 ∧ (nameT lvl :: ownT lvl).Nodup ∧ ∀ t ∈ ownT lvl, t ∈ tagsQ ∧ rowT t ≤ lvl ∧ (∀ i, i < lvl → t ≠ nameT i) ∧ (t ≠ 2101760 ∧ t ≠ 2101766 ∧ t ≠ 2101769) ∧ matchE (kindT t) [] [] = 0 := by decide
theorem toldX_full (lvl : Nat) : toldX lvl (ownT lvl).length = flE 2 (nameT lvl) (kindT (nameT lvl)) [] :: (ownT lvl).map (fun t => flE 2 t (kindT t) []) := by
  unfold toldX
  rw [List.take_length]
theorem toldX_ok {lvl : Nat} (h : lvl < 4) : XOk lvl (toldX lvl (ownT lvl).length) ∧ ∀ x ∈ toldX lvl (ownT lvl).length, matchE x.2.1 x.2.2.1 [] = 0 := by
  obtain ⟨o1, o2, o3⟩ := ownT_ok lvl h
  obtain ⟨m1, m2, m3⟩ := (show ∀ k, k < 4 → nameT k ∈ tagsQ ∧ rowT (nameT k) ≤ k ∧ ∀ i, i < k → nameT k ≠ nameT i by decide) lvl h
  rw [toldX_full]
  refine ⟨⟨?_, ?_, fun x hx => ?_⟩, fun x hx => ?_⟩
  · rw [List.length_cons, List.length_map]; omega
  · rw [List.map_cons, List.map_map]
    have : (ownT lvl).map ((fun x : El 3 => x.1) ∘ fun t => flE 2 t (kindT t) []) = ownT lvl := by
      rw [show ((fun x : El 3 => x.1) ∘ fun t => flE 2 t (kindT t) []) = id from rfl, List.map_id]
    rw [this]
    exact o2
  · rcases List.mem_cons.1 hx with rfl | hx
    · exact ⟨nameT lvl, [], rfl, m1, m2, m3, by decide, by simp⟩
    · obtain ⟨t, ht, rfl⟩ := List.mem_map.1 hx
      obtain ⟨p1, p2, p3, _⟩ := o3 t ht
      exact ⟨t, [], rfl, p1, p2, p3, by decide, by simp⟩
  · rcases List.mem_cons.1 hx with rfl | hx
    · exact (show ∀ k, k < 4 → matchE (kindT (nameT k)) [] [] = 0 by decide) lvl h
    · obtain ⟨t, ht, rfl⟩ := List.mem_map.1 hx
      exact (o3 t ht).2.2.2.2
/-- The names that are told are those that are there. -/
theorem there_names {A : List (List (El 3))} (hG : Good (n := 1) A) (hD : ∀ l ∈ A, Desc l) {lvl : Nat} (hlv : lvl < 4) {f : List (El 3)} (hf : lvl = 0 ∨ Desc f) {nf : Nat → By} (hnf : ∀ i, i < lvl → nf i = nm (n := 2) i f) {L : List By} (h : ThereL A lvl (nm (n := 2) (lvl - 1) f) A.length L) :
    (namesF (n := 1) A lvl (askQ lvl nf (toldX lvl (ownT lvl).length))).mergeSort Go.leB = L := by
  have hmem : ∀ s, s ∈ namesF (n := 1) A lvl (askQ lvl nf (toldX lvl (ownT lvl).length)) ↔ s ∈ L := fun s => by
    rw [names_ask hG hD hlv hf hnf (toldX_ok hlv).1, h.2.1 s, List.take_length]
    constructor
    · rintro ⟨⟨o, ho, h1, h2⟩, _⟩
      exact ⟨o, ho, h2, h1⟩
    · rintro ⟨o, ho, h1, h2⟩
      refine ⟨⟨o, ho, h2, h1⟩, fun x hx => ?_⟩
      obtain ⟨hm, _⟩ := lastA_mem (n := 2) (A := A) (lvl := lvl) (s := s) ⟨o, ho, h2⟩
      have hc : ∀ t ∈ tagsQ, chk (kindT t) (valG (gS (n := 1) A lvl s) t) = 0 := fun t ht => tell_chk hG.1 (hG.2.2 _ hm).2 ht
      rw [toldX_full] at hx
      rcases List.mem_cons.1 hx with rfl | hx
      · exact match_empty (hc _ (nameT_Q lvl hlv).1)
      · obtain ⟨t, ht, rfl⟩ := List.mem_map.1 hx
        exact match_empty (hc _ ((ownT_ok lvl hlv).2.2 t ht).1)
  have hn : L.Nodup := h.1.imp (fun {a b} hl e => by rw [e] at hl; exact less_irr _ hl)
  have hp : L.Perm (namesF (n := 1) A lvl (askQ lvl nf (toldX lvl (ownT lvl).length))) := (List.perm_ext_iff_of_nodup hn (namesF_nodup (n := 1) A lvl _)).2 (fun s => (hmem s).symm)
  rw [← mergeSort_of_perm hp]
  exact List.mergeSort_of_pairwise (h.1.imp (fun hl => by simpa [Go.leB] using less_le hl))
/-- What is told of a name. -/
def toldS (A : List (List (El 3))) (lvl : Nat) (nf : Nat → By) (s : By) : List (El 3) := (askQ lvl nf (toldX lvl (ownT lvl).length)).map (ansE (gS (n := 1) A lvl s))
theorem told_ans {A : List (List (El 3))} {lvl : Nat} {nf : Nat → By} {L : List By} (h : (namesF (n := 1) A lvl (askQ lvl nf (toldX lvl (ownT lvl).length))).mergeSort Go.leB = L) : ansS A lvl (askQ lvl nf (toldX lvl (ownT lvl).length)) = L.map (toldS A lvl nf) := by
  unfold ansS
  rw [h]
  rfl
theorem told_len {A : List (List (El 3))} {lvl : Nat} (hlv : lvl < 4) {nf : Nat → By} (s : By) : (toldS A lvl nf s).length ≤ 24 := by
  unfold toldS askQ
  rw [List.length_map, (srtE_perm (n := 2) _).length_eq]
  have := askL_len hlv nf (toldX_ok hlv).1
  omega
theorem told_level {A : List (List (El 3))} {lvl : Nat} (hlv : lvl < 4) {nf : Nat → By} (s : By) : textE (n := 2) (toldS A lvl nf s) 524370 = wordL lvl := by
  have hm : flE 2 524370 [67, 83] (wordL lvl) ∈ askQ lvl nf (toldX lvl (ownT lvl).length) := askQ_mem.2 (Or.inl rfl)
  refine (find_ans (g := gS (n := 1) A lvl s) (askQ_find hlv (toldX_ok hlv).1 hm)).trans ?_
  show valG (gS (n := 1) A lvl s) 524370 = wordL lvl
  simp [gS, tellN, updG, cntT, valG]
theorem told_name {A : List (List (El 3))} {lvl : Nat} (hlv : lvl < 4) {nf : Nat → By} {s : By} (hs : ∃ l ∈ A, nm (n := 2) lvl l = s) : textE (n := 2) (toldS A lvl nf s) (nameT lvl) = s := by
  have hm : flE 2 (nameT lvl) (kindT (nameT lvl)) [] ∈ askQ lvl nf (toldX lvl (ownT lvl).length) := askQ_mem.2 (Or.inr (Or.inr (by rw [toldX_full]; exact List.mem_cons_self)))
  refine (find_ans (g := gS (n := 1) A lvl s) (askQ_find hlv (toldX_ok hlv).1 hm)).trans ?_
  obtain ⟨q1, q2⟩ := nameT_Q lvl hlv
  exact (tell_val q1 q2).trans (lastA_mem (n := 2) hs).2
theorem told_own {A : List (List (El 3))} {lvl : Nat} (hlv : lvl < 4) {nf : Nat → By} {s : By} {t : Int} (ht : t ∈ ownT lvl) : textE (n := 2) (toldS A lvl nf s) t = textE (n := 2) (lastA (n := 2) A lvl s) t := by
  have hm : flE 2 t (kindT t) [] ∈ askQ lvl nf (toldX lvl (ownT lvl).length) := askQ_mem.2 (Or.inr (Or.inr (by rw [toldX_full]; exact List.mem_cons_of_mem _ (List.mem_map.2 ⟨t, ht, rfl⟩))))
  refine (find_ans (g := gS (n := 1) A lvl s) (askQ_find hlv (toldX_ok hlv).1 hm)).trans ?_
  obtain ⟨p1, _, _, p4, _⟩ := (ownT_ok lvl hlv).2.2 t ht
  exact tell_val p1 p4
/-- What was laid in last, among the first k. -/
theorem lastA_yes {A : List (List (El 3))} {lvl k : Nat} {s : By} {o : List (El 3)} (ho : A[k]? = some o) (h : nm (n := 2) lvl o = s) : lastA (n := 2) (A.take (k + 1)) lvl s = o := by
  unfold lastA
  rw [List.take_add_one, ho, List.filter_append]
  simp [h]
theorem lastA_no {A : List (List (El 3))} {lvl k : Nat} {s : By} {o : List (El 3)} (ho : A[k]? = some o) (h : nm (n := 2) lvl o ≠ s) : lastA (n := 2) (A.take (k + 1)) lvl s = lastA (n := 2) (A.take k) lvl s := by
  unfold lastA
  rw [List.take_add_one, ho, List.filter_append]
  simp [h]
/-- The names seen so far. -/
theorem seenA_take {A : List (List (El 3))} {lvl k : Nat} {o : List (El 3)} (ho : A[k]? = some o) : seenA (n := 2) lvl (A.take (k + 1)) [] = if (seenA (n := 2) lvl (A.take k) []).contains (nm (n := 2) lvl o) then seenA (n := 2) lvl (A.take k) [] else seenA (n := 2) lvl (A.take k) [] ++ [nm (n := 2) lvl o] := by
  have happ : ∀ (X Y : List (List (El 3))) (s : List By), seenA (n := 2) lvl (X ++ Y) s = seenA (n := 2) lvl Y (seenA (n := 2) lvl X s) := fun X => by
    induction X with
    | nil => intro Y s; rfl
    | cons x X ih => intro Y s; rw [List.cons_append, seenA, seenA, ih]
  rw [List.take_add_one, ho, happ]
  rfl
theorem seenA_le {A : List (List (El 3))} {lvl k : Nat} : (seenA (n := 2) lvl (A.take k) []).length ≤ k := by
  refine Nat.le_trans (cntA_le (n := 2) (A.take k) lvl) ?_
  rw [List.length_take]
  exact Nat.min_le_left _ _
end Go.Proofs.YtaokifbpakbgdaaGreatDoor

/- Package foliokeep: what was laid in last of something (book.last). -/
namespace Go.Proofs.YtaokifbpakbgdaaGreatDoor
open Go.RowKit
def LastC (w : World) (G : Nat → Prop) (b : Nat) (l : List (El 3)) (sv : Value) : Prop := cls w b #[.string (bs (nm (n := 2) 0 l)), .string (bs (nm (n := 2) 1 l)), .string (bs (nm (n := 2) 2 l)), .string (bs (nm (n := 2) 3 l)), sv] 61 ∧ Rd w G 3 sv l
theorem LastC.nil {w : World} {G : Nat → Prop} {b : Nat} (h : cls w b #[.string ⟨#[]⟩, .string ⟨#[]⟩, .string ⟨#[]⟩, .string ⟨#[]⟩, .slice none 0 0] 61) : LastC w G b [] (.slice none 0 0) := ⟨h, Rd.nil _ _ _⟩
theorem set5_other {j b : Nat} (W : World) (h : j ≠ b) (u0 u1 u2 u3 u4 : Value) : (((((W.setCell ⟨b, 0, none⟩ u0).setCell ⟨b, 1, none⟩ u1).setCell ⟨b, 2, none⟩ u2).setCell ⟨b, 3, none⟩ u3).setCell ⟨b, 4, none⟩ u4).heap[j]? = W.heap[j]? :=
  (Below.heap_setCell _ _ _ _ h).trans ((Below.heap_setCell _ _ _ _ h).trans ((Below.heap_setCell _ _ _ _ h).trans ((Below.heap_setCell _ _ _ _ h).trans (Below.heap_setCell _ _ _ _ h))))
set_option maxRecDepth 20000 in
set_option maxHeartbeats 4000000 in
theorem klast_any (w0 w : World) (B a m : Nat) (T : Int) (F G : Nat → Prop) (fv : Value) (A : List (List (El 3))) (lvl : Nat) (s : By) (h : BkI w0 w B a m T F G fv A A) (hA : A.length ≤ 48) (hlv : lvl < 4) :
    Calls Tryz.prog 32 #[ptr B, .int .i64 lvl, .string (bs s)] w fun e w' => ∃ sv, e = .returned (factV (fun i => nm (n := 2) i (lastA (n := 2) A lvl s)) sv) ∧ Below w.heap.size w w' ∧ Rd w' G 3 sv (lastA (n := 2) A lvl s) := by
  have H := hid h
  have HGl := hid (fun j hj => (h.2.2.2.2.1 j hj).1)
  obtain ⟨xs0, hown0, _⟩ := h.2.2.1
  obtain ⟨adf, capf, rfl⟩ := row_sl hown0
  clear hown0 h
  go_enter Tryz.func32, Tryz.ntmps32
  go_wp2_with fail
  have u2 := Below.alloc (Below.alloc (Below.refl w.heap.size w) (Nat.le_refl _) (.cells #[.string ⟨#[]⟩, .string ⟨#[]⟩, .string ⟨#[]⟩, .string ⟨#[]⟩, .slice none 0 0] 61)) (by simp) (.cells #[.string ⟨#[]⟩, .string ⟨#[]⟩, .string ⟨#[]⟩, .string ⟨#[]⟩, .slice none 0 0] 61)
  have P0 : cls ((w.alloc (.cells #[.string ⟨#[]⟩, .string ⟨#[]⟩, .string ⟨#[]⟩, .string ⟨#[]⟩, .slice none 0 0] 61)).alloc (.cells #[.string ⟨#[]⟩, .string ⟨#[]⟩, .string ⟨#[]⟩, .string ⟨#[]⟩, .slice none 0 0] 61)) w.heap.size #[.string ⟨#[]⟩, .string ⟨#[]⟩, .string ⟨#[]⟩, .string ⟨#[]⟩, .slice none 0 0] 61 := (Below.heap_alloc _ _ _ (by simp)).trans (heap_alloc_new _ _)
  have P1 : cls ((w.alloc (.cells #[.string ⟨#[]⟩, .string ⟨#[]⟩, .string ⟨#[]⟩, .string ⟨#[]⟩, .slice none 0 0] 61)).alloc (.cells #[.string ⟨#[]⟩, .string ⟨#[]⟩, .string ⟨#[]⟩, .string ⟨#[]⟩, .slice none 0 0] 61)) (w.heap.size + 1) #[.string ⟨#[]⟩, .string ⟨#[]⟩, .string ⟨#[]⟩, .string ⟨#[]⟩, .slice none 0 0] 61 := by
    have := heap_alloc_new (w.alloc (.cells #[.string ⟨#[]⟩, .string ⟨#[]⟩, .string ⟨#[]⟩, .string ⟨#[]⟩, .slice none 0 0] 61)) (.cells #[.string ⟨#[]⟩, .string ⟨#[]⟩, .string ⟨#[]⟩, .string ⟨#[]⟩, .slice none 0 0] 61)
    rw [World.size_alloc] at this
    exact this
  generalize (w.alloc (.cells #[.string ⟨#[]⟩, .string ⟨#[]⟩, .string ⟨#[]⟩, .string ⟨#[]⟩, .slice none 0 0] 61)).alloc (.cells #[.string ⟨#[]⟩, .string ⟨#[]⟩, .string ⟨#[]⟩, .string ⟨#[]⟩, .slice none 0 0] 61) = w2 at u2 P0 P1 ⊢
  have U2 := hid u2
  have P0' := hid P0
  have P1' := hid (LastC.nil (G := G) P1)
  clear u2 P0 P1
  go_loopw [8] (fun i wr => ∃ (k : Nat) (sv : Value), k ≤ A.length ∧ i = .int .i64 k ∧ Hid (cls wr w.heap.size #[.string ⟨#[]⟩, .string ⟨#[]⟩, .string ⟨#[]⟩, .string ⟨#[]⟩, .slice none 0 0] 61) ∧ Hid (LastC wr G (w.heap.size + 1) (lastA (n := 2) (A.take k) lvl s) sv) ∧ Hid (Below w.heap.size w wr)) (fun i _ => A.length - (intOf i).toNat)
  case atStart => exact ⟨0, _, Nat.zero_le _, rfl, P0', P1', U2⟩
  case round =>
    obtain ⟨k, sv, hk, rfl, hR, hC, hU⟩ := hrel
    have HB := hid (H.out.up hU.out)
    have b1 := HB.out.1.at (i := 1) rfl
    have X1 := hC.out.1
    obtain ⟨ads, caps, rfl⟩ := hC.out.2.slice
    by_cases hkl : k < A.length
    · obtain ⟨gg, cap9, sv9, e9, c9, c4, hrd9⟩ := HB.out.at (List.getElem?_eq_getElem hkl)
      obtain ⟨rfl, _, rfl⟩ := Value.slice.inj e9
      have hget := hid (List.getElem?_eq_getElem hkl)
      have n0 : wr.cell? ⟨gg, k * 5, none⟩ = some (.string (bs (nm (n := 2) 0 A[k]))) := c9 0 (by omega)
      have n1 := c9 1 (by omega)
      have n2 := c9 2 (by omega)
      have n3 := c9 3 (by omega)
      have cl := c9 lvl hlv
      have RD9 := hid hrd9
      generalize A[k] = o at n0 n1 n2 n3 cl c4 hget RD9
      obtain ⟨ad9, cap9', rfl⟩ := RD9.out.slice
      have hk2 : (k : Int) < A.length := by omega
      have hl4 : (lvl : Int) < 4 := by omega
      have e1 := bs_toList (nm (n := 2) lvl o)
      have e2 := bs_toList s
      clear e9 c9 hrd9
      by_cases hnm : nm (n := 2) lvl o = s
      · have hb3 : (nm (n := 2) lvl o == s) = true := by simpa using hnm
        have hY := hid (lastA_yes hget.out hnm)
        have y0 := X1.at (i := 0) rfl
        have y1 := X1.at (i := 1) rfl
        have y2 := X1.at (i := 2) rfl
        have y3 := X1.at (i := 3) rfl
        have y4 := X1.at (i := 4) rfl
        have f0 := X1.free 0
        have f1 := X1.free 1
        have f2 := X1.free 2
        have f3 := X1.free 3
        have f4 := X1.free 4
        have FB := hid (cls_set5 X1 (.string (bs (nm (n := 2) 0 o))) (.string (bs (nm (n := 2) 1 o))) (.string (bs (nm (n := 2) 2 o))) (.string (bs (nm (n := 2) 3 o))) (.slice ad9 o.length cap9'))
        have U4 := hid (Below.set5 hU.out (show w.heap.size ≤ w.heap.size + 1 by omega) (.string (bs (nm (n := 2) 0 o))) (.string (bs (nm (n := 2) 1 o))) (.string (bs (nm (n := 2) 2 o))) (.string (bs (nm (n := 2) 3 o))) (.slice ad9 o.length cap9'))
        have RDn := hid (fun (W : World) (hW : Below w.heap.size w W) => (H.out.up hW).at hget.out)
        clear hnm X1
        generalize nm (n := 2) lvl o = nn at cl e1 hb3
        go_wp2
        go_roundw
        case rel => exact ⟨k + 1, _, by omega, by go_num, hid (hR.out.keep (set5_other _ (by omega) _ _ _ _ _)), (by unfold Hid; rw [hY.out]; exact ⟨FB.out, RD9.out.keep (fun _ h => h) (fun j hj _ => (U4.out.block j (HGl.out j hj)).trans (hU.out.block j (HGl.out j hj)).symm)⟩), U4⟩
        case measure => simp [intOf]; omega
      · have hb3 : (nm (n := 2) lvl o == s) = false := by simpa using hnm
        have hY := hid (lastA_no hget.out hnm)
        clear hnm
        generalize nm (n := 2) lvl o = nn at cl e1 hb3
        go_wp2
        go_roundw
        case rel => exact ⟨k + 1, _, by omega, by go_num, hR, (by unfold Hid; rw [hY.out]; exact hC.out), hU⟩
        case measure => simp [intOf]; omega
    · obtain rfl : k = A.length := by omega
      have hC2 := hid hC.out
      rw [List.take_length] at hC2 X1
      have ZR := hR.out
      have y0 := X1.at (i := 0) rfl
      have y1 := X1.at (i := 1) rfl
      have y2 := X1.at (i := 2) rfl
      have y3 := X1.at (i := 3) rfl
      have y4 := X1.at (i := 4) rfl
      have z0 := ZR.at (i := 0) rfl
      have z1 := ZR.at (i := 1) rfl
      have z2 := ZR.at (i := 2) rfl
      have z3 := ZR.at (i := 3) rfl
      have z4 := ZR.at (i := 4) rfl
      have f0 := ZR.free 0
      have f1 := ZR.free 1
      have f2 := ZR.free 2
      have f3 := ZR.free 3
      have f4 := ZR.free 4
      generalize HO : lastA (n := 2) A lvl s = o at hC2 X1 y0 y1 y2 y3 y4 ⊢
      have HO' := hid HO
      clear HO
      have RZ := hid ZR
      have U4 := hid (Below.set5 hU.out (Nat.le_refl w.heap.size) (.string (bs (nm (n := 2) 0 o))) (.string (bs (nm (n := 2) 1 o))) (.string (bs (nm (n := 2) 2 o))) (.string (bs (nm (n := 2) 3 o))) (.slice ads o.length caps))
      clear X1 ZR
      go_wp2
      refine bodyPost_ret (results_cell_row Tryz.results32 _ _ w.heap.size 61 _ (0, 0) _ rfl (cls_set5 RZ.out _ _ _ _ _) Tryz.underlying61 rfl (by kernel_rfl)) rfl ?_
      rw [HO'.out]
      exact ⟨_, rfl, U4.out, hC2.out.2.keep (fun _ h => h) (fun j hj _ => (U4.out.block j (HGl.out j hj)).trans (hU.out.block j (HGl.out j hj)).symm)⟩
end Go.Proofs.YtaokifbpakbgdaaGreatDoor

/- Told: its tables, and what stands while its levels are gone through. -/
namespace Go.Proofs.YtaokifbpakbgdaaGreatDoor
open Go.RowKit
/-- The tables: what is asked for on each level, and of what kind it is. -/
def Tabs (W : World) (N : Nat) : Prop := cls W (N) #[.int .i64 1048592] 3 ∧ cls W (N + 1) #[.int .i64 524320, .int .i64 524336, .int .i64 524368, .int .i64 1048592] 3 ∧ cls W (N + 2) #[.int .i64 524384, .int .i64 2097169, .int .i64 524320] 3 ∧ cls W (N + 3) #[.int .i64 2097171, .int .i64 524384] 3 ∧ cls W (N + 4) #[.slice (some ⟨N, 0, none⟩) 1 1, .slice (some ⟨N + 1, 0, none⟩) 4 4, .slice (some ⟨N + 2, 0, none⟩) 3 3, .slice (some ⟨N + 3, 0, none⟩) 2 2] 45 ∧ cls W (N + 5) #[.string ⟨#[80, 78]⟩] 9 ∧ cls W (N + 6) #[.string ⟨#[68, 65]⟩, .string ⟨#[84, 77]⟩, .string ⟨#[76, 79]⟩, .string ⟨#[80, 78]⟩] 9 ∧ cls W (N + 7) #[.string ⟨#[67, 83]⟩, .string ⟨#[73, 83]⟩, .string ⟨#[68, 65]⟩] 9 ∧ cls W (N + 8) #[.string ⟨#[73, 83]⟩, .string ⟨#[67, 83]⟩] 9 ∧ cls W (N + 9) #[.slice (some ⟨N + 5, 0, none⟩) 1 1, .slice (some ⟨N + 6, 0, none⟩) 4 4, .slice (some ⟨N + 7, 0, none⟩) 3 3, .slice (some ⟨N + 8, 0, none⟩) 2 2] 70
theorem tabs_at (w : World) : Tabs ((((((((((w.alloc (.cells #[.int .i64 1048592] 3)).alloc (.cells #[.int .i64 524320, .int .i64 524336, .int .i64 524368, .int .i64 1048592] 3)).alloc (.cells #[.int .i64 524384, .int .i64 2097169, .int .i64 524320] 3)).alloc (.cells #[.int .i64 2097171, .int .i64 524384] 3)).alloc (.cells #[.slice (some ⟨w.heap.size, 0, none⟩) 1 1, .slice (some ⟨w.heap.size + 1, 0, none⟩) 4 4, .slice (some ⟨w.heap.size + 1 + 1, 0, none⟩) 3 3, .slice (some ⟨w.heap.size + 1 + 1 + 1, 0, none⟩) 2 2] 45)).alloc (.cells #[.string ⟨#[80, 78]⟩] 9)).alloc (.cells #[.string ⟨#[68, 65]⟩, .string ⟨#[84, 77]⟩, .string ⟨#[76, 79]⟩, .string ⟨#[80, 78]⟩] 9)).alloc (.cells #[.string ⟨#[67, 83]⟩, .string ⟨#[73, 83]⟩, .string ⟨#[68, 65]⟩] 9)).alloc (.cells #[.string ⟨#[73, 83]⟩, .string ⟨#[67, 83]⟩] 9)).alloc (.cells #[.slice (some ⟨w.heap.size + 1 + 1 + 1 + 1 + 1, 0, none⟩) 1 1, .slice (some ⟨w.heap.size + 1 + 1 + 1 + 1 + 1 + 1, 0, none⟩) 4 4, .slice (some ⟨w.heap.size + 1 + 1 + 1 + 1 + 1 + 1 + 1, 0, none⟩) 3 3, .slice (some ⟨w.heap.size + 1 + 1 + 1 + 1 + 1 + 1 + 1 + 1, 0, none⟩) 2 2] 70)) w.heap.size ∧ Below w.heap.size w ((((((((((w.alloc (.cells #[.int .i64 1048592] 3)).alloc (.cells #[.int .i64 524320, .int .i64 524336, .int .i64 524368, .int .i64 1048592] 3)).alloc (.cells #[.int .i64 524384, .int .i64 2097169, .int .i64 524320] 3)).alloc (.cells #[.int .i64 2097171, .int .i64 524384] 3)).alloc (.cells #[.slice (some ⟨w.heap.size, 0, none⟩) 1 1, .slice (some ⟨w.heap.size + 1, 0, none⟩) 4 4, .slice (some ⟨w.heap.size + 1 + 1, 0, none⟩) 3 3, .slice (some ⟨w.heap.size + 1 + 1 + 1, 0, none⟩) 2 2] 45)).alloc (.cells #[.string ⟨#[80, 78]⟩] 9)).alloc (.cells #[.string ⟨#[68, 65]⟩, .string ⟨#[84, 77]⟩, .string ⟨#[76, 79]⟩, .string ⟨#[80, 78]⟩] 9)).alloc (.cells #[.string ⟨#[67, 83]⟩, .string ⟨#[73, 83]⟩, .string ⟨#[68, 65]⟩] 9)).alloc (.cells #[.string ⟨#[73, 83]⟩, .string ⟨#[67, 83]⟩] 9)).alloc (.cells #[.slice (some ⟨w.heap.size + 1 + 1 + 1 + 1 + 1, 0, none⟩) 1 1, .slice (some ⟨w.heap.size + 1 + 1 + 1 + 1 + 1 + 1, 0, none⟩) 4 4, .slice (some ⟨w.heap.size + 1 + 1 + 1 + 1 + 1 + 1 + 1, 0, none⟩) 3 3, .slice (some ⟨w.heap.size + 1 + 1 + 1 + 1 + 1 + 1 + 1 + 1, 0, none⟩) 2 2] 70)) := by
  have k0 : cls (w.alloc (.cells #[.int .i64 1048592] 3)) (w.heap.size) #[.int .i64 1048592] 3 := heap_alloc_new _ _
  have z1 : (w.alloc (.cells #[.int .i64 1048592] 3)).heap.size = w.heap.size + 1 := by rw [World.size_alloc]
  have b1 := Below.alloc (Below.refl w.heap.size w) (Nat.le_refl _) (.cells #[.int .i64 1048592] 3)
  generalize w.alloc (.cells #[.int .i64 1048592] 3) = w1 at k0 z1 b1 ⊢
  have k1 : cls (w1.alloc (.cells #[.int .i64 524320, .int .i64 524336, .int .i64 524368, .int .i64 1048592] 3)) (w.heap.size + 1) #[.int .i64 524320, .int .i64 524336, .int .i64 524368, .int .i64 1048592] 3 := by rw [← z1]; exact heap_alloc_new _ _
  have z2 : (w1.alloc (.cells #[.int .i64 524320, .int .i64 524336, .int .i64 524368, .int .i64 1048592] 3)).heap.size = w.heap.size + 1 + 1 := by rw [World.size_alloc, z1]
  have b2 := Below.alloc (Below.refl w1.heap.size w1) (Nat.le_refl _) (.cells #[.int .i64 524320, .int .i64 524336, .int .i64 524368, .int .i64 1048592] 3)
  generalize w1.alloc (.cells #[.int .i64 524320, .int .i64 524336, .int .i64 524368, .int .i64 1048592] 3) = w2 at k1 z2 b2 ⊢
  have k2 : cls (w2.alloc (.cells #[.int .i64 524384, .int .i64 2097169, .int .i64 524320] 3)) (w.heap.size + 1 + 1) #[.int .i64 524384, .int .i64 2097169, .int .i64 524320] 3 := by rw [← z2]; exact heap_alloc_new _ _
  have z3 : (w2.alloc (.cells #[.int .i64 524384, .int .i64 2097169, .int .i64 524320] 3)).heap.size = w.heap.size + 1 + 1 + 1 := by rw [World.size_alloc, z2]
  have b3 := Below.alloc (Below.refl w2.heap.size w2) (Nat.le_refl _) (.cells #[.int .i64 524384, .int .i64 2097169, .int .i64 524320] 3)
  generalize w2.alloc (.cells #[.int .i64 524384, .int .i64 2097169, .int .i64 524320] 3) = w3 at k2 z3 b3 ⊢
  have k3 : cls (w3.alloc (.cells #[.int .i64 2097171, .int .i64 524384] 3)) (w.heap.size + 1 + 1 + 1) #[.int .i64 2097171, .int .i64 524384] 3 := by rw [← z3]; exact heap_alloc_new _ _
  have z4 : (w3.alloc (.cells #[.int .i64 2097171, .int .i64 524384] 3)).heap.size = w.heap.size + 1 + 1 + 1 + 1 := by rw [World.size_alloc, z3]
  have b4 := Below.alloc (Below.refl w3.heap.size w3) (Nat.le_refl _) (.cells #[.int .i64 2097171, .int .i64 524384] 3)
  generalize w3.alloc (.cells #[.int .i64 2097171, .int .i64 524384] 3) = w4 at k3 z4 b4 ⊢
  have k4 : cls (w4.alloc (.cells #[.slice (some ⟨w.heap.size, 0, none⟩) 1 1, .slice (some ⟨w.heap.size + 1, 0, none⟩) 4 4, .slice (some ⟨w.heap.size + 1 + 1, 0, none⟩) 3 3, .slice (some ⟨w.heap.size + 1 + 1 + 1, 0, none⟩) 2 2] 45)) (w.heap.size + 1 + 1 + 1 + 1) #[.slice (some ⟨w.heap.size, 0, none⟩) 1 1, .slice (some ⟨w.heap.size + 1, 0, none⟩) 4 4, .slice (some ⟨w.heap.size + 1 + 1, 0, none⟩) 3 3, .slice (some ⟨w.heap.size + 1 + 1 + 1, 0, none⟩) 2 2] 45 := by rw [← z4]; exact heap_alloc_new _ _
  have z5 : (w4.alloc (.cells #[.slice (some ⟨w.heap.size, 0, none⟩) 1 1, .slice (some ⟨w.heap.size + 1, 0, none⟩) 4 4, .slice (some ⟨w.heap.size + 1 + 1, 0, none⟩) 3 3, .slice (some ⟨w.heap.size + 1 + 1 + 1, 0, none⟩) 2 2] 45)).heap.size = w.heap.size + 1 + 1 + 1 + 1 + 1 := by rw [World.size_alloc, z4]
  have b5 := Below.alloc (Below.refl w4.heap.size w4) (Nat.le_refl _) (.cells #[.slice (some ⟨w.heap.size, 0, none⟩) 1 1, .slice (some ⟨w.heap.size + 1, 0, none⟩) 4 4, .slice (some ⟨w.heap.size + 1 + 1, 0, none⟩) 3 3, .slice (some ⟨w.heap.size + 1 + 1 + 1, 0, none⟩) 2 2] 45)
  generalize w4.alloc (.cells #[.slice (some ⟨w.heap.size, 0, none⟩) 1 1, .slice (some ⟨w.heap.size + 1, 0, none⟩) 4 4, .slice (some ⟨w.heap.size + 1 + 1, 0, none⟩) 3 3, .slice (some ⟨w.heap.size + 1 + 1 + 1, 0, none⟩) 2 2] 45) = w5 at k4 z5 b5 ⊢
  have k5 : cls (w5.alloc (.cells #[.string ⟨#[80, 78]⟩] 9)) (w.heap.size + 1 + 1 + 1 + 1 + 1) #[.string ⟨#[80, 78]⟩] 9 := by rw [← z5]; exact heap_alloc_new _ _
  have z6 : (w5.alloc (.cells #[.string ⟨#[80, 78]⟩] 9)).heap.size = w.heap.size + 1 + 1 + 1 + 1 + 1 + 1 := by rw [World.size_alloc, z5]
  have b6 := Below.alloc (Below.refl w5.heap.size w5) (Nat.le_refl _) (.cells #[.string ⟨#[80, 78]⟩] 9)
  generalize w5.alloc (.cells #[.string ⟨#[80, 78]⟩] 9) = w6 at k5 z6 b6 ⊢
  have k6 : cls (w6.alloc (.cells #[.string ⟨#[68, 65]⟩, .string ⟨#[84, 77]⟩, .string ⟨#[76, 79]⟩, .string ⟨#[80, 78]⟩] 9)) (w.heap.size + 1 + 1 + 1 + 1 + 1 + 1) #[.string ⟨#[68, 65]⟩, .string ⟨#[84, 77]⟩, .string ⟨#[76, 79]⟩, .string ⟨#[80, 78]⟩] 9 := by rw [← z6]; exact heap_alloc_new _ _
  have z7 : (w6.alloc (.cells #[.string ⟨#[68, 65]⟩, .string ⟨#[84, 77]⟩, .string ⟨#[76, 79]⟩, .string ⟨#[80, 78]⟩] 9)).heap.size = w.heap.size + 1 + 1 + 1 + 1 + 1 + 1 + 1 := by rw [World.size_alloc, z6]
  have b7 := Below.alloc (Below.refl w6.heap.size w6) (Nat.le_refl _) (.cells #[.string ⟨#[68, 65]⟩, .string ⟨#[84, 77]⟩, .string ⟨#[76, 79]⟩, .string ⟨#[80, 78]⟩] 9)
  generalize w6.alloc (.cells #[.string ⟨#[68, 65]⟩, .string ⟨#[84, 77]⟩, .string ⟨#[76, 79]⟩, .string ⟨#[80, 78]⟩] 9) = w7 at k6 z7 b7 ⊢
  have k7 : cls (w7.alloc (.cells #[.string ⟨#[67, 83]⟩, .string ⟨#[73, 83]⟩, .string ⟨#[68, 65]⟩] 9)) (w.heap.size + 1 + 1 + 1 + 1 + 1 + 1 + 1) #[.string ⟨#[67, 83]⟩, .string ⟨#[73, 83]⟩, .string ⟨#[68, 65]⟩] 9 := by rw [← z7]; exact heap_alloc_new _ _
  have z8 : (w7.alloc (.cells #[.string ⟨#[67, 83]⟩, .string ⟨#[73, 83]⟩, .string ⟨#[68, 65]⟩] 9)).heap.size = w.heap.size + 1 + 1 + 1 + 1 + 1 + 1 + 1 + 1 := by rw [World.size_alloc, z7]
  have b8 := Below.alloc (Below.refl w7.heap.size w7) (Nat.le_refl _) (.cells #[.string ⟨#[67, 83]⟩, .string ⟨#[73, 83]⟩, .string ⟨#[68, 65]⟩] 9)
  generalize w7.alloc (.cells #[.string ⟨#[67, 83]⟩, .string ⟨#[73, 83]⟩, .string ⟨#[68, 65]⟩] 9) = w8 at k7 z8 b8 ⊢
  have k8 : cls (w8.alloc (.cells #[.string ⟨#[73, 83]⟩, .string ⟨#[67, 83]⟩] 9)) (w.heap.size + 1 + 1 + 1 + 1 + 1 + 1 + 1 + 1) #[.string ⟨#[73, 83]⟩, .string ⟨#[67, 83]⟩] 9 := by rw [← z8]; exact heap_alloc_new _ _
  have z9 : (w8.alloc (.cells #[.string ⟨#[73, 83]⟩, .string ⟨#[67, 83]⟩] 9)).heap.size = w.heap.size + 1 + 1 + 1 + 1 + 1 + 1 + 1 + 1 + 1 := by rw [World.size_alloc, z8]
  have b9 := Below.alloc (Below.refl w8.heap.size w8) (Nat.le_refl _) (.cells #[.string ⟨#[73, 83]⟩, .string ⟨#[67, 83]⟩] 9)
  generalize w8.alloc (.cells #[.string ⟨#[73, 83]⟩, .string ⟨#[67, 83]⟩] 9) = w9 at k8 z9 b9 ⊢
  have k9 : cls (w9.alloc (.cells #[.slice (some ⟨w.heap.size + 1 + 1 + 1 + 1 + 1, 0, none⟩) 1 1, .slice (some ⟨w.heap.size + 1 + 1 + 1 + 1 + 1 + 1, 0, none⟩) 4 4, .slice (some ⟨w.heap.size + 1 + 1 + 1 + 1 + 1 + 1 + 1, 0, none⟩) 3 3, .slice (some ⟨w.heap.size + 1 + 1 + 1 + 1 + 1 + 1 + 1 + 1, 0, none⟩) 2 2] 70)) (w.heap.size + 1 + 1 + 1 + 1 + 1 + 1 + 1 + 1 + 1) #[.slice (some ⟨w.heap.size + 1 + 1 + 1 + 1 + 1, 0, none⟩) 1 1, .slice (some ⟨w.heap.size + 1 + 1 + 1 + 1 + 1 + 1, 0, none⟩) 4 4, .slice (some ⟨w.heap.size + 1 + 1 + 1 + 1 + 1 + 1 + 1, 0, none⟩) 3 3, .slice (some ⟨w.heap.size + 1 + 1 + 1 + 1 + 1 + 1 + 1 + 1, 0, none⟩) 2 2] 70 := by rw [← z9]; exact heap_alloc_new _ _
  have z10 : (w9.alloc (.cells #[.slice (some ⟨w.heap.size + 1 + 1 + 1 + 1 + 1, 0, none⟩) 1 1, .slice (some ⟨w.heap.size + 1 + 1 + 1 + 1 + 1 + 1, 0, none⟩) 4 4, .slice (some ⟨w.heap.size + 1 + 1 + 1 + 1 + 1 + 1 + 1, 0, none⟩) 3 3, .slice (some ⟨w.heap.size + 1 + 1 + 1 + 1 + 1 + 1 + 1 + 1, 0, none⟩) 2 2] 70)).heap.size = w.heap.size + 1 + 1 + 1 + 1 + 1 + 1 + 1 + 1 + 1 + 1 := by rw [World.size_alloc, z9]
  have b10 := Below.alloc (Below.refl w9.heap.size w9) (Nat.le_refl _) (.cells #[.slice (some ⟨w.heap.size + 1 + 1 + 1 + 1 + 1, 0, none⟩) 1 1, .slice (some ⟨w.heap.size + 1 + 1 + 1 + 1 + 1 + 1, 0, none⟩) 4 4, .slice (some ⟨w.heap.size + 1 + 1 + 1 + 1 + 1 + 1 + 1, 0, none⟩) 3 3, .slice (some ⟨w.heap.size + 1 + 1 + 1 + 1 + 1 + 1 + 1 + 1, 0, none⟩) 2 2] 70)
  generalize w9.alloc (.cells #[.slice (some ⟨w.heap.size + 1 + 1 + 1 + 1 + 1, 0, none⟩) 1 1, .slice (some ⟨w.heap.size + 1 + 1 + 1 + 1 + 1 + 1, 0, none⟩) 4 4, .slice (some ⟨w.heap.size + 1 + 1 + 1 + 1 + 1 + 1 + 1, 0, none⟩) 3 3, .slice (some ⟨w.heap.size + 1 + 1 + 1 + 1 + 1 + 1 + 1 + 1, 0, none⟩) 2 2] 70) = w10 at k9 z10 b10 ⊢
  refine ⟨⟨?_, ?_, ?_, ?_, ?_, ?_, ?_, ?_, ?_, ?_⟩, ?_⟩
  · exact (((((((((k0.up b2).up b3).up b4).up b5).up b6).up b7).up b8).up b9).up b10)
  · exact ((((((((k1.up b3).up b4).up b5).up b6).up b7).up b8).up b9).up b10)
  · exact (((((((k2.up b4).up b5).up b6).up b7).up b8).up b9).up b10)
  · exact ((((((k3.up b5).up b6).up b7).up b8).up b9).up b10)
  · exact (((((k4.up b6).up b7).up b8).up b9).up b10)
  · exact ((((k5.up b7).up b8).up b9).up b10)
  · exact (((k6.up b8).up b9).up b10)
  · exact ((k7.up b9).up b10)
  · exact (k8.up b10)
  · exact k9
  · exact (((((((((b1.trans (b2.mono (by omega))).trans (b3.mono (by omega))).trans (b4.mono (by omega))).trans (b5.mono (by omega))).trans (b6.mono (by omega))).trans (b7.mono (by omega))).trans (b8.mono (by omega))).trans (b9.mono (by omega))).trans (b10.mono (by omega)))
theorem Tabs.keep {W W' : World} {N : Nat} (h : Tabs W N) (hk : ∀ j, N ≤ j → j < W.heap.size → W'.heap[j]? = W.heap[j]?) : Tabs W' N := by
  obtain ⟨h0, h1, h2, h3, h4, h5, h6, h7, h8, h9⟩ := h
  exact ⟨h0.keep (hk _ (by omega) h0.lt), h1.keep (hk _ (by omega) h1.lt), h2.keep (hk _ (by omega) h2.lt), h3.keep (hk _ (by omega) h3.lt), h4.keep (hk _ (by omega) h4.lt), h5.keep (hk _ (by omega) h5.lt), h6.keep (hk _ (by omega) h6.lt), h7.keep (hk _ (by omega) h7.lt), h8.keep (hk _ (by omega) h8.lt), h9.keep (hk _ (by omega) h9.lt)⟩
theorem Tabs.row {W : World} {N : Nat} (h : Tabs W N) {q : Nat} (hq : q < 4) : W.cell? ⟨N + 4, q, none⟩ = some (.slice (some ⟨N + q, 0, none⟩) (ownT q).length (ownT q).length) ∧ W.cell? ⟨N + 9, q, none⟩ = some (.slice (some ⟨N + 5 + q, 0, none⟩) (ownT q).length (ownT q).length) := by
  obtain ⟨h0, h1, h2, h3, h4, h5, h6, h7, h8, h9⟩ := h
  rcases (show q = 0 ∨ q = 1 ∨ q = 2 ∨ q = 3 by omega) with rfl | rfl | rfl | rfl <;> exact ⟨h4.at rfl, h9.at rfl⟩
theorem Tabs.at {W : World} {N : Nat} (h : Tabs W N) {q : Nat} (hq : q < 4) {j : Nat} {t : Int} (hj : (ownT q)[j]? = some t) : W.cell? ⟨N + q, j, none⟩ = some (.int .i64 t) ∧ W.cell? ⟨N + 5 + q, j, none⟩ = some (.string (bs (kindT t))) := by
  obtain ⟨h0, h1, h2, h3, h4, h5, h6, h7, h8, h9⟩ := h
  rcases (show q = 0 ∨ q = 1 ∨ q = 2 ∨ q = 3 by omega) with rfl | rfl | rfl | rfl
  · have hjl : j < 1 := (List.getElem?_eq_some_iff.1 hj).1
    obtain rfl : j = 0 := by omega
    obtain rfl := Option.some.inj hj
    exact ⟨h0.at rfl, h5.at rfl⟩
  · have hjl : j < 4 := (List.getElem?_eq_some_iff.1 hj).1
    rcases (show j = 0 ∨ j = 1 ∨ j = 2 ∨ j = 3 by omega) with rfl | rfl | rfl | rfl <;> (obtain rfl := Option.some.inj hj; exact ⟨h1.at rfl, h6.at rfl⟩)
  · have hjl : j < 3 := (List.getElem?_eq_some_iff.1 hj).1
    rcases (show j = 0 ∨ j = 1 ∨ j = 2 by omega) with rfl | rfl | rfl <;> (obtain rfl := Option.some.inj hj; exact ⟨h2.at rfl, h7.at rfl⟩)
  · have hjl : j < 2 := (List.getElem?_eq_some_iff.1 hj).1
    rcases (show j = 0 ∨ j = 1 by omega) with rfl | rfl <;> (obtain rfl := Option.some.inj hj; exact ⟨h3.at rfl, h8.at rfl⟩)
/-- What stands while the levels are gone through. -/
def ToldSt (w0 wr : World) (B a m : Nat) (T : Int) (F G : Nat → Prop) (fv : Value) (A : List (List (El 3))) (fb tb kb N : Nat) (l : List (El 3)) (sv : Value) : Prop := BkI w0 wr B a m T F G fv A A ∧ LastC wr G fb l sv ∧ cls wr tb #[.int .i64 1048608, .int .i64 2097165, .int .i64 2097166, .int .i64 524312] 66 ∧ cls wr kb #[.string ⟨#[76, 79]⟩, .string ⟨#[85, 73]⟩, .string ⟨#[85, 73]⟩, .string ⟨#[85, 73]⟩] 58 ∧ Tabs wr N ∧ (B < fb ∧ B < tb ∧ B < kb ∧ B < N)
theorem LastC.up {w w' : World} {G : Nat → Prop} {b : Nat} {l : List (El 3)} {sv : Value} (h : LastC w G b l sv) (k : Below w.heap.size w w') : LastC w' G b l sv := ⟨h.1.up k, h.2.up k⟩
theorem ToldSt.up {w0 wr wr' : World} {B a m : Nat} {T : Int} {F G : Nat → Prop} {fv : Value} {A : List (List (El 3))} {fb tb kb N : Nat} {l : List (El 3)} {sv : Value} (h : ToldSt w0 wr B a m T F G fv A fb tb kb N l sv) (k : Below wr.heap.size wr wr') : ToldSt w0 wr' B a m T F G fv A fb tb kb N l sv := by
  obtain ⟨h1, h2, h3, h4, h5, h6⟩ := h
  exact ⟨h1.up k, h2.up k, h3.up k, h4.up k, h5.keep (fun j _ hj => k.block j hj), h6⟩
theorem ToldSt.ans {w0 wr wr' : World} {B a m : Nat} {T : Int} {F G : Nat → Prop} {fv : Value} {A : List (List (El 3))} {fb tb kb N : Nat} {l : List (El 3)} {sv : Value} (h : ToldSt w0 wr B a m T F G fv A fb tb kb N l sv) (k : UpB B wr wr') (hb : BkI w0 wr' B a m T F G fv A A) : ToldSt w0 wr' B a m T F G fv A fb tb kb N l sv := by
  obtain ⟨h1, h2, h3, h4, h5, h6⟩ := h
  refine ⟨hb, ⟨h2.1.keep (k.block h2.1.lt (by omega)), h2.2.keep (fun _ h => h) (fun j hj hl => k.block hl (h1.2.2.2.2.1 j hj).2.2.2.1)⟩, h3.keep (k.block h3.lt (by omega)), h4.keep (k.block h4.lt (by omega)), h5.keep (fun j hj hl => k.block hl (by omega)), h6⟩
theorem toldX_succ {q j : Nat} {t : Int} (h : (ownT q)[j]? = some t) : toldX q (j + 1) = toldX q j ++ [flE 2 t (kindT t) []] := by
  unfold toldX
  rw [List.take_add_one, h, List.map_append]
  rfl
end Go.Proofs.YtaokifbpakbgdaaGreatDoor
