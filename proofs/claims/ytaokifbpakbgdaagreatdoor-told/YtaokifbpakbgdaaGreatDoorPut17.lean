/-
  Several texts in one; what each one has stands at its head.
-/
import Derived.Test.YtaokifbpakbgdaaGreatDoorPut16
import Derived.Test.YtaokifbpakbgdaaGreatDoorPut14
import Derived.Test.YtaokifbpakbgdaaGreatDoorPut15
import Derived.Deep.RegionLaw
/- Queries of a level, with the names above it and some elements more: they are right, their bytes come back, and what is wrong with them (no program). -/
namespace Go.Proofs.YtaokifbpakbgdaaGreatDoor

def askL (lvl : Nat) (nf : Nat → By) (xs : List (El 3)) : List (El 3) := flE 2 524370 [67, 83] (wordL lvl) :: ((List.range lvl).map (fun i => flE 2 (nameT i) (kindT (nameT i)) (nf i)) ++ xs)
def askQ (lvl : Nat) (nf : Nat → By) (xs : List (El 3)) : List (El 3) := srtE (n := 2) (askL lvl nf xs)
/-- The tags that are asked for. -/
def tagsQ : List Int := [1048608, 1048592, 2101760, 2097165, 524320, 524336, 524368, 2101766, 2097166, 524384, 2097169, 2101769, 524312, 2097171]
theorem tagsQ_facts : ∀ t ∈ tagsQ, isK (kindT t) = true ∧ kindT t ≠ SQ ∧ 0 ≤ t ∧ t ≤ 4294967295 ∧ t / 65536 ≠ 65534 ∧ t ≠ 524370 ∧ t ≠ 533016 ∧ t ∈ tagsA := by decide
/-- An element that may be asked for on a level. -/
def XOk1 (lvl : Nat) (x : El 3) : Prop := ∃ t v, x = flE 2 t (kindT t) v ∧ t ∈ tagsQ ∧ rowT t ≤ lvl ∧ (∀ i, i < lvl → t ≠ nameT i) ∧ v.length ≤ 64 ∧ v.getLast? ≠ some (padB (kindT t))
def XOk (lvl : Nat) (xs : List (El 3)) : Prop := xs.length ≤ 8 ∧ (xs.map (·.1)).Nodup ∧ ∀ x ∈ xs, XOk1 lvl x
def NfOk (lvl : Nat) (nf : Nat → By) : Prop := ∀ i, i < lvl → NmOk (kindT (nameT i)) (nf i)
theorem nameT_inj {i j : Nat} (hi : i < 4) (hj : j < 4) (h : nameT i = nameT j) : i = j := by
  have : ∀ i, i < 4 → ∀ j, j < 4 → nameT i = nameT j → i = j := by decide
  exact this i hi j hj h
theorem nameT_facts : ∀ i, i < 4 → isK (kindT (nameT i)) = true ∧ kindT (nameT i) ≠ SQ ∧ 0 ≤ nameT i ∧ nameT i ≤ 4294967295 ∧ nameT i / 65536 ≠ 65534 ∧ nameT i ≠ 524370 ∧ rowT (nameT i) = i ∧ nameT i ≠ 533016 := by decide
theorem askL_tags {lvl : Nat} (hlv : lvl < 4) (nf : Nat → By) {xs : List (El 3)} (hx : XOk lvl xs) : ((askL lvl nf xs).map (·.1)).Nodup := by
  unfold askL
  rw [List.map_cons, List.map_append, List.map_map, List.nodup_cons, List.nodup_append]
  have hn : ∀ t ∈ (List.range lvl).map ((fun x : El 3 => x.1) ∘ fun i => flE 2 (nameT i) (kindT (nameT i)) (nf i)), ∃ i, i < lvl ∧ t = nameT i := fun t ht => by
    obtain ⟨i, hi, rfl⟩ := List.mem_map.1 ht
    exact ⟨i, List.mem_range.1 hi, rfl⟩
  have hxs : ∀ t ∈ xs.map (·.1), t ∈ tagsQ ∧ ∀ i, i < lvl → t ≠ nameT i := fun t ht => by
    obtain ⟨x, hm, rfl⟩ := List.mem_map.1 ht
    obtain ⟨t, v, rfl, h1, _, h3, _⟩ := hx.2.2 x hm
    exact ⟨h1, h3⟩
  refine ⟨fun h => ?_, ?_, hx.2.1, fun a ha b hb e => ?_⟩
  · rcases List.mem_append.1 h with h | h
    · obtain ⟨i, hi, e⟩ := hn _ h
      exact (nameT_facts i (by omega)).2.2.2.2.2.1 e.symm
    · exact (tagsQ_facts _ (hxs _ h).1).2.2.2.2.2.1 rfl
  · rw [List.nodup_iff_pairwise_ne, List.pairwise_map]
    refine (List.nodup_iff_pairwise_ne.1 (List.nodup_range (n := lvl))).imp_of_mem (fun hi hj h e => h (nameT_inj ?_ ?_ e))
    · have := List.mem_range.1 hi; omega
    · have := List.mem_range.1 hj; omega
  · obtain ⟨i, hi, rfl⟩ := hn a ha
    exact (hxs b hb).2 i hi e.symm
theorem askL_mem {lvl : Nat} {nf : Nat → By} {xs : List (El 3)} {x : El 3} : x ∈ askL lvl nf xs ↔ x = flE 2 524370 [67, 83] (wordL lvl) ∨ (∃ i, i < lvl ∧ x = flE 2 (nameT i) (kindT (nameT i)) (nf i)) ∨ x ∈ xs := by
  unfold askL
  rw [List.mem_cons, List.mem_append, List.mem_map]
  constructor
  · rintro (h | ⟨i, hi, rfl⟩ | h)
    · exact Or.inl h
    · exact Or.inr (Or.inl ⟨i, List.mem_range.1 hi, rfl⟩)
    · exact Or.inr (Or.inr h)
  · rintro (h | ⟨i, hi, rfl⟩ | h)
    · exact Or.inl h
    · exact Or.inr (Or.inl ⟨i, List.mem_range.2 hi, rfl⟩)
    · exact Or.inr (Or.inr h)
theorem askQ_mem {lvl : Nat} {nf : Nat → By} {xs : List (El 3)} {x : El 3} : x ∈ askQ lvl nf xs ↔ x = flE 2 524370 [67, 83] (wordL lvl) ∨ (∃ i, i < lvl ∧ x = flE 2 (nameT i) (kindT (nameT i)) (nf i)) ∨ x ∈ xs :=
  (srtE_perm (n := 2) _).mem_iff.trans askL_mem
theorem askL_len {lvl : Nat} (hlv : lvl < 4) (nf : Nat → By) {xs : List (El 3)} (hx : XOk lvl xs) : (askL lvl nf xs).length ≤ 12 := by
  unfold askL
  have := hx.1
  rw [List.length_cons, List.length_append, List.length_map, List.length_range]
  omega
theorem wordL_facts : ∀ i, i < 4 → (wordL i).length ≤ 64 ∧ (wordL i).getLast? ≠ some (padB [67, 83]) ∧ matchE [67, 83] (wordL i) [] = 0 ∧ lvI true (wordL i) [0, 1, 2, 3] = i := by decide
theorem askQ_err {lvl : Nat} (hlv : lvl < 4) {nf : Nat → By} (hn : NfOk lvl nf) {xs : List (El 3)} (hx : XOk lvl xs) : errS 3 0 (askQ lvl nf xs) = 0 ∧ (wrS false 0 3 (askQ lvl nf xs)).length ≤ 16384 ∧ (askQ lvl nf xs).length ≤ 12 := by
  have hlen := askL_len hlv nf hx
  have hq : ∀ x ∈ askL lvl nf xs, ∃ t k v, x = flE 2 t k v ∧ isK k = true ∧ k ≠ SQ ∧ 0 ≤ t ∧ t ≤ 4294967295 ∧ t / 65536 ≠ 65534 ∧ v.length ≤ 64 ∧ v.getLast? ≠ some (padB k) := fun x hm => by
    rcases askL_mem.1 hm with rfl | ⟨i, hi, rfl⟩ | hm
    · exact ⟨_, _, _, rfl, by decide, by decide, by decide, by decide, by decide, (wordL_facts lvl hlv).1, (wordL_facts lvl hlv).2.1⟩
    · obtain ⟨f1, f2, f3, f4, f5, _⟩ := nameT_facts i (by omega)
      exact ⟨_, _, _, rfl, f1, f2, f3, f4, f5, (hn i hi).2.2.1, (hn i hi).2.2.2.1⟩
    · obtain ⟨t, v, rfl, h1, _, _, h4, h5⟩ := hx.2.2 x hm
      obtain ⟨f1, f2, f3, f4, f5, _⟩ := tagsQ_facts t h1
      exact ⟨_, _, _, rfl, f1, f2, f3, f4, f5, h4, h5⟩
  refine ⟨errS_srt (n := 2) (by omega) (askL_tags hlv nf hx) (fun x hm => ?_), ?_, by unfold askQ; rw [srtE_len]; exact hlen⟩
  · obtain ⟨t, k, v, rfl, f1, f2, f3, f4, f5, f6, f7⟩ := hq x hm
    exact flE_ok (errI_nil _) f1 f2 f3 f4 f5 f6 f7
  · have hb : (wrS false 0 3 (askQ lvl nf xs)).length ≤ (askQ lvl nf xs).length * 80 := wrS_few (n := 2) (B := 80) (fun x hm => by
      obtain ⟨t, k, v, rfl, f1, f2, _, _, _, f6, _⟩ := hq x ((srtE_perm (n := 2) _).mem_iff.1 hm)
      exact wrE_flat (x := flE 2 t k v) (isK_length f1) f2 f6)
    have : (askQ lvl nf xs).length ≤ 12 := by unfold askQ; rw [srtE_len]; exact hlen
    have := Nat.mul_le_mul_right 80 this
    omega
theorem askQ_find {lvl : Nat} (hlv : lvl < 4) {nf : Nat → By} {xs : List (El 3)} (hx : XOk lvl xs) {x : El 3} (hm : x ∈ askQ lvl nf xs) : findE (n := 2) (askQ lvl nf xs) x.1 = some x := by
  unfold askQ
  rw [findE_perm (srtE_perm (n := 2) _) (askL_tags hlv nf hx)]
  exact (findE_iff (askL_tags hlv nf hx)).2 ⟨(srtE_perm (n := 2) _).mem_iff.1 hm, rfl⟩
theorem askQ_lev {lvl : Nat} (hlv : lvl < 4) {nf : Nat → By} {xs : List (El 3)} (hx : XOk lvl xs) : levO (n := 2) (askQ lvl nf xs) = lvl := by
  have := askQ_find hlv (nf := nf) hx (askQ_mem.2 (Or.inl rfl))
  unfold levO
  rw [show findE (n := 2) (askQ lvl nf xs) 524370 = some (flE 2 524370 [67, 83] (wordL lvl)) from this]
  exact (wordL_facts lvl hlv).2.2.2
theorem chk_empty : ∀ t ∈ tagsQ, chk (kindT t) [] = 0 := by decide
/-- A name is a pattern. -/
theorem name_pat {k v : By} (hk : k = [76, 79] ∨ k = [85, 73]) (h : NmOk k v) : isPatB k v = true ∧ matchE k v [] = 0 := by
  obtain ⟨h1, h2, _, _, _, h6⟩ := h
  have hp : isPatB k v = true := by
    rcases hk with rfl | rfl
    · show isTextB v = true
      unfold chk at h1
      rw [if_neg (fun h => h2 h.2)] at h1
      have h3 : (if txtB v then (0 : Int) else 6) = 0 := h1
      by_cases ht : txtB v = true
      · unfold txtB at ht
        simp only [Bool.and_eq_true] at ht
        exact ht.1.2
      · rw [if_neg ht] at h3; cases h3
    · show ((spl 92 v).all fun x => decide (chkF [85, 73] x = 0)) = true
      rw [spl_none 92 v h6]
      unfold chk at h1
      rw [if_neg (fun h => h2 h.2)] at h1
      simp [h1]
  refine ⟨hp, ?_⟩
  have hc : chk k [] = 0 := by rcases hk with rfl | rfl <;> decide
  unfold matchE
  rw [if_neg (fun h => h hc), if_neg h2, if_pos hp]
theorem kindT_nm : ∀ i, i < 4 → kindT (nameT i) = [76, 79] ∨ kindT (nameT i) = [85, 73] := by decide
/-- What is wrong with a key. -/
theorem askQ_key {lvl : Nat} (hlv : lvl < 4) {nf : Nat → By} (hn : NfOk lvl nf) {xs : List (El 3)} (hx : XOk lvl xs) {x : El 3} (hm : x ∈ askQ lvl nf xs) : keyE (n := 1) (lvl : Int) x = 0 ∨ (x ∈ xs ∧ keyE (n := 1) (lvl : Int) x = matchE x.2.1 x.2.2.1 []) := by
  rcases askQ_mem.1 hm with rfl | ⟨i, hi, rfl⟩ | hm
  · refine Or.inl ?_
    show (if (lvl : Int) < ((rowT 524370 : Nat) : Int) then (11 : Int) else if (524370 : Int) = 533016 ∧ ([67, 83] : By) = SQ then _ else (if ([67, 83] : By) ≠ kindT 524370 then 2 else matchE (kindT 524370) (wordL lvl) [])) = 0
    have h0 : rowT 524370 = 0 := by decide
    have h1 : kindT 524370 = [67, 83] := by decide
    rw [h0, h1, if_neg (by omega), if_neg (by decide), if_neg (by decide)]
    exact (wordL_facts lvl hlv).2.2.1
  · refine Or.inl ?_
    obtain ⟨_, f2, _, _, _, _, f7, f8⟩ := nameT_facts i (by omega)
    show (if (lvl : Int) < ((rowT (nameT i) : Nat) : Int) then (11 : Int) else if nameT i = 533016 ∧ kindT (nameT i) = SQ then _ else (if kindT (nameT i) ≠ kindT (nameT i) then 2 else matchE (kindT (nameT i)) (nf i) [])) = 0
    rw [f7, if_neg (by omega), if_neg (fun h => f8 h.1), if_neg (fun h => h rfl)]
    exact (name_pat (kindT_nm i (by omega)) (hn i hi)).2
  · refine Or.inr ⟨hm, ?_⟩
    obtain ⟨t, v, rfl, h1, h2, _⟩ := hx.2.2 x hm
    obtain ⟨_, f2, _, _, _, _, f7, _⟩ := tagsQ_facts t h1
    show (if (lvl : Int) < ((rowT t : Nat) : Int) then (11 : Int) else if t = 533016 ∧ kindT t = SQ then _ else (if kindT t ≠ kindT t then 2 else matchE (kindT t) v [])) = matchE (kindT t) v []
    rw [if_neg (by omega), if_neg (fun h => f7 h.1), if_neg (fun h => h rfl)]
theorem fstE_zeros {α : Type} {f : α → Int} : ∀ {l : List α}, (∀ x ∈ l, f x = 0) → fstE f l = 0
  | [], _ => rfl
  | x :: l, h => by
    rw [fstE, if_neg (fun e => e (h x List.mem_cons_self))]
    exact fstE_zeros (fun y hy => h y (List.mem_cons_of_mem _ hy))
theorem askQ_above {lvl : Nat} (hlv : lvl < 4) {nf : Nat → By} (hn : NfOk lvl nf) {xs : List (El 3)} (hx : XOk lvl xs) : aboveE (n := 2) (askQ lvl nf xs) (lvl : Int) [0, 1, 2, 3] = true := by
  unfold aboveE
  rw [List.all_eq_true]
  intro i hi
  have hi4 : i < 4 := by
    simp only [List.mem_cons, List.not_mem_nil, or_false] at hi
    omega
  by_cases h : (i : Int) < lvl
  · have hil : i < lvl := by omega
    rw [decide_eq_true h]
    have hf := askQ_find hlv (nf := nf) hx (askQ_mem.2 (Or.inr (Or.inl ⟨i, hil, rfl⟩)))
    have hf2 : findE (n := 2) (askQ lvl nf xs) (nameT i) = some (flE 2 (nameT i) (kindT (nameT i)) (nf i)) := hf
    obtain ⟨h1, h2, _, _, h5, _⟩ := hn i hil
    unfold plainE textE
    rw [hf2]
    show (!true || plainV (kindT (nameT i)) (nf i)) = true
    unfold plainV
    rw [show (nf i).any wildB = false from h5, h1]
    simp [h2]
  · rw [decide_eq_false h]
    rfl
/-- A query that is right: what is found. -/
theorem ask_good {lvl : Nat} (hlv : lvl < 4) {nf : Nat → By} (hn : NfOk lvl nf) {xs : List (El 3)} (hx : XOk lvl xs) (hp : ∀ x ∈ xs, matchE x.2.1 x.2.2.1 [] = 0) :
    askE (n := 1) (lvl : Int) (askQ lvl nf xs) = 0 ∧ fndE (wrS false 0 3 (askQ lvl nf xs)) = 0 ∧ ∀ A, fndL A (wrS false 0 3 (askQ lvl nf xs)) = ansL (n := 1) A lvl (askQ lvl nf xs) := by
  obtain ⟨e1, e2, _⟩ := askQ_err hlv hn hx
  obtain ⟨p1, p2⟩ := way_parse e1 e2
  have hl := askQ_lev hlv (nf := nf) hx
  have ha : askE (n := 1) (lvl : Int) (askQ lvl nf xs) = 0 := by
    unfold askE
    have hz : fstE (keyE (n := 1) (lvl : Int)) (askQ lvl nf xs) = 0 := fstE_zeros (fun x hm => by
      rcases askQ_key hlv hn hx hm with h | ⟨h1, h2⟩
      · exact h
      · rw [h2]; exact hp x h1)
    rw [if_neg (by omega), if_neg (fun h => h hz), if_pos (askQ_above hlv hn hx)]
  refine ⟨ha, ?_, fun A => ?_⟩
  · unfold fndE
    rw [if_neg (fun h => h p2), p1]
    show askE (n := 1) (levO (n := 2) (askQ lvl nf xs)) (askQ lvl nf xs) = 0
    rw [hl]
    exact ha
  · unfold fndL
    rw [if_neg (fun h => h p2), p1]
    show (if askE (n := 1) (levO (n := 2) (askQ lvl nf xs)) (askQ lvl nf xs) ≠ 0 then [] else ansL (n := 1) A (levO (n := 2) (askQ lvl nf xs)).toNat (askQ lvl nf xs)) = _
    rw [hl, if_neg (fun h => h ha), Int.toNat_natCast]
end Go.Proofs.YtaokifbpakbgdaaGreatDoor

/- Package foliokeep on archives: asked. -/
namespace Go.Proofs.YtaokifbpakbgdaaGreatDoor
open Go.RowKit

/-- 'append' to a row of one's own, as one step of a region that draws its order. -/
theorem step_append_sep {P : Program} {ops : Array Oper} {o : Oper} {a : Act} {w : World} {K : Act → World → Prop} {Q : Exit → Act → World → Prop} {E : Prop}
    (hg : o.guard = none) (s x : Operand) (t : TypeId) (hop : o.op = Op.call { callee := Callee.builtin Builtin.append, args := #[s, x], argTypes := #[t, t] })
    (e : TypeId) (i : TypeInfo) (z : Value) (size bytes : Nat) (h1 : P.underlying t = some (.slice e)) (h2 : P.info? e = some i) (h3 : i.zero = some z) (h4 : i.size = size) (h5 : i.bytes = bytes) (h6 : z.cells.size = size) (h7 : 0 < size)
    (v : Value) (n : Nat) (xs : List Value) (hs : a.eval s = v) (hown : w.ownsRow 0 e size v n xs)
    (ad : Addr) (m c : Nat) (news : List Value) (hx : a.eval x = .slice (some ad) m c) (hn : news.length = m * size) (hc : ∀ j u, news[j]? = some u → w.cell? (ad.add j) = some u) (h1c : ∀ u ∈ news, u.oneCell' = true)
    (b1 : n + m ≤ maxLen) (b2 : (n + m) * bytes ≤ 140737488355328)
    (hK : ∀ v' w', w'.ownsRow 0 e size v' (n + m) (xs ++ news) → w.grownBy w' v.ownBlock → Moved w v v' → K (a.put o.dst v') w') :
    if Region.wanted o (yielded ops a.tmps) = true then Oper.wp P o a w K Q else E := by
  have hw : Region.wanted o (yielded ops a.tmps) = true := by simp [Region.wanted, hg]
  rw [if_pos hw]
  obtain ⟨v', w', hrun, q1, q2, q3⟩ : ∃ v' w', (Builtin.append_ #[t, t] o.type #[v, .slice (some ad) m c]).run P w = .ok v' w' ∧ w'.ownsRow 0 e size v' (n + m) (xs ++ news) ∧ w.grownBy w' v.ownBlock ∧ Moved w v v' := by
    have weak : ∀ {w' : World} {v' : Value} {k : Nat} {ys : List Value}, w'.ownsRow w.heap.size e size v' k ys → w'.ownsRow 0 e size v' k ys ∧ ∀ g ∈ v'.ownBlock.toList, w.heap.size ≤ g := by
      rintro w' v' k ys ⟨q1, q2⟩
      rcases q2 with ⟨rfl, q2⟩ | ⟨g, cap, cur, rfl, q2, q3⟩
      · exact ⟨⟨q1, Or.inl ⟨rfl, q2⟩⟩, fun g hg => by cases hg⟩
      · exact ⟨⟨q1, Or.inr ⟨g, cap, cur, rfl, Nat.zero_le _, q3⟩⟩, fun j hj => by simp [Value.ownBlock] at hj; omega⟩
    obtain ⟨k1, k2⟩ := id hown
    rcases k2 with ⟨rfl, rfl⟩ | ⟨g, cap, cur, rfl, _⟩
    · have : xs = [] := List.eq_nil_of_length_eq_zero (by simpa using k1)
      subst this
      obtain ⟨v', w', hrun, r1, r2, _⟩ := run_append_own (P := P) w w.heap.size t o.type e i z size bytes h1 h2 h3 h4 h5 h6 h7 (.slice none 0 0) 0 [] (World.ownsRow_nil w _ e size) ad m c news hn hc h1c b1 b2 (Nat.le_refl _)
      exact ⟨v', w', hrun, (weak r1).1, r2, Or.inr (weak r1).2⟩
    · by_cases hf : n + m ≤ cap
      · obtain ⟨w', hrun, r1, r2⟩ := run_append_fits (P := P) w 0 t o.type e i size h1 h2 h4 g n cap xs hown ad m c news hn hc h1c hf
        exact ⟨_, w', hrun, r1, r2, Or.inl rfl⟩
      · obtain ⟨v', w', hrun, r1, r2⟩ := run_append_arg_grows (P := P) w t o.type e i z size bytes h1 h2 h3 h4 h5 h6 h7 ⟨g, 0, none⟩ n cap xs k1 (fun j u hu => by
          have hj := (List.getElem?_eq_some_iff.1 hu).1
          rw [Addr.add_lit, Nat.zero_add, hown.cellAt _ (by omega)]
          exact hu) ad m c news hn hc (by omega) b1 b2
        exact ⟨v', w', hrun, (weak r1).1, ⟨r2.os, r2.tape, r2.output, r2.size, fun k hk _ => r2.block k hk (by simp)⟩, Or.inr (weak r1).2⟩
  unfold Oper.wp
  simp [execOp, hop, resolve, invoke, builtin, hs, hx, hrun, Result.andThen]
  exact hK v' w' q1 q2 q3
/-- The cells of a slice, to be appended. -/
theorem Rd.news {w : World} {F : Nat → Prop} {n : Nat} {ad : Addr} {len cap : Nat} {l : List (El (n + 1))} (h : Rd w F (n + 1) (.slice (some ad) len cap) l) :
    ∃ news, Ls 4 (CpE w F n) news l [] ∧ (∀ j u, news[j]? = some u → w.cell? (ad.add j) = some u) ∧ ∀ u ∈ news, u.oneCell' = true := by
  have key : ∀ k, k ≤ l.length → ∃ news, Ls 4 (CpE w F n) news (l.take k) [] ∧ (∀ j u, news[j]? = some u → w.cell? (ad.add j) = some u) ∧ ∀ u ∈ news, u.oneCell' = true := by
    intro k
    induction k with
    | zero => exact fun _ => ⟨[], ⟨rfl, rfl⟩, fun j u hu => by simp at hu, fun u hu => by simp at hu⟩
    | succ k ih =>
      intro hk
      obtain ⟨news, h1, h2, h3⟩ := ih (by omega)
      obtain ⟨ad', cap', e, hc⟩ := h
      obtain ⟨a, ea, _, c0, c1, c2, iv, c3, c4⟩ := hc k _ (List.getElem?_eq_getElem (by omega))
      simp only [Value.slice.injEq] at e
      obtain ⟨rfl, _, _⟩ := e
      obtain rfl := Option.some.inj ea
      rw [Addr.add_add] at c1 c2 c3
      have hl := h1.length
      have hl2 : (l.take k).length = k := by rw [List.length_take]; omega
      rw [hl2] at hl
      have hiv : iv.oneCell' = true := by
        obtain ⟨_, _, rfl⟩ := RdI.slice (n := n) c4
        rfl
      refine ⟨news ++ [.int .i64 l[k].1, .string (bs l[k].2.1), .string (bs l[k].2.2.1), iv], ?_, fun j u hu => ?_, fun u hu => ?_⟩
      · rw [List.take_succ_eq_append_getElem (by omega)]
        exact Ls.snoc (k := 4) (R := CpE w F n) (b := []) rfl ⟨rfl, iv, rfl, c4⟩ h1
      · by_cases hj : j < news.length
        · rw [List.getElem?_append_left hj] at hu; exact h2 j u hu
        · rw [List.getElem?_append_right (by omega)] at hu
          have hjl := (List.getElem?_eq_some_iff.1 hu).1
          simp only [List.length_cons, List.length_nil] at hjl
          rcases (show j = 4 * k ∨ j = 4 * k + 1 ∨ j = 4 * k + 2 ∨ j = 4 * k + 3 by omega) with e | e | e | e
          · rw [e, hl, show 4 * k - k * 4 = 0 by omega] at hu; rw [e, ← Option.some.inj hu]; exact c0
          · rw [e, hl, show 4 * k + 1 - k * 4 = 1 by omega] at hu; rw [e, ← Option.some.inj hu]; exact c1
          · rw [e, hl, show 4 * k + 2 - k * 4 = 2 by omega] at hu; rw [e, ← Option.some.inj hu]; exact c2
          · rw [e, hl, show 4 * k + 3 - k * 4 = 3 by omega] at hu; rw [e, ← Option.some.inj hu]; exact c3
      · rcases List.mem_append.1 hu with hu | hu
        · exact h3 u hu
        · simp only [List.mem_cons, List.not_mem_nil, or_false] at hu
          rcases hu with rfl | rfl | rfl | rfl
          · rfl
          · rfl
          · rfl
          · exact hiv
  obtain ⟨news, h1, h2, h3⟩ := key l.length (Nat.le_refl _)
  rw [List.take_length] at h1
  exact ⟨news, h1, h2, h3⟩
def askP (lvl : Nat) (nf : Nat → By) (i : Nat) : List (El 3) := flE 2 524370 [67, 83] (wordL lvl) :: (List.range i).map (fun i => flE 2 (nameT i) (kindT (nameT i)) (nf i))
theorem askP_succ (lvl : Nat) (nf : Nat → By) (i : Nat) : askP lvl nf (i + 1) = askP lvl nf i ++ [flE 2 (nameT i) (kindT (nameT i)) (nf i)] := by
  unfold askP
  rw [List.range_succ, List.map_append]
  rfl
/-- A block of cells. -/
def cls (w : World) (b : Nat) (xs : Array Value) (T : TypeId) : Prop := w.heap[b]? = some (.cells xs T (0, 0))
theorem cls.keep {w w' : World} {b : Nat} {xs : Array Value} {T : TypeId} (h : cls w b xs T) (k : w'.heap[b]? = w.heap[b]?) : cls w' b xs T := k.trans h
theorem cls.lt {w : World} {b : Nat} {xs : Array Value} {T : TypeId} (h : cls w b xs T) : b < w.heap.size := lt_of_block h
theorem cls.up {w w' : World} {b : Nat} {xs : Array Value} {T : TypeId} (h : cls w b xs T) (k : Below w.heap.size w w') : cls w' b xs T := h.keep (k.block _ h.lt)
theorem cls.at {w : World} {b : Nat} {xs : Array Value} {T : TypeId} (h : cls w b xs T) {i : Nat} {u : Value} (hu : xs[i]? = some u) : w.cell? ⟨b, i, none⟩ = some u := by
  unfold cls at h
  simp [World.cell?, h, hu]
theorem own_of_cls {w : World} {b : Nat} {T : TypeId} {c0 c1 c2 c3 : Value} (h : cls w b #[c0, c1, c2, c3] T) : w.ownsRow 0 T 4 (.slice (some ⟨b, 0, none⟩) 1 1) 1 [c0, c1, c2, c3] :=
  ⟨rfl, Or.inr ⟨b, 1, #[c0, c1, c2, c3], rfl, Nat.zero_le _, h, Nat.le_refl _, by decide, rfl, rfl⟩⟩
/-- What lies beside the row of a query that is built: the fact, the tags, the kinds. -/
def AskB (fb tb kb : Nat) (nf : Nat → By) (sv : Value) (wr : World) (v : Value) : Prop := cls wr fb #[.string (bs (nf 0)), .string (bs (nf 1)), .string (bs (nf 2)), .string (bs (nf 3)), sv] 61 ∧
  cls wr tb #[.int .i64 1048608, .int .i64 2097165, .int .i64 2097166, .int .i64 524312] 66 ∧ cls wr kb #[.string ⟨#[76, 79]⟩, .string ⟨#[85, 73]⟩, .string ⟨#[85, 73]⟩, .string ⟨#[85, 73]⟩] 58 ∧ ∀ b ∈ v.ownBlock.toList, fb ≤ b ∧ b ≠ fb ∧ b ≠ tb ∧ b ≠ kb
theorem own_slice2 {w : World} {base : Nat} {e : TypeId} {size : Nat} {v : Value} {n : Nat} {xs : List Value} (h : w.ownsRow base e size v n xs) : ∃ ad cap, v = .slice ad n cap := by
  rcases h.2 with ⟨e, e2⟩ | ⟨g, cap, cur, e, _⟩
  · exact ⟨none, 0, by rw [e, e2]⟩
  · exact ⟨_, _, e⟩
theorem AskB.push {fb tb kb : Nat} {nf : Nat → By} {sv : Value} {wr w7 : World} {v v6 : Value} {o : Obj} (hA : AskB fb tb kb nf sv wr v) (hg : ((wr.alloc o).drew).grownBy w7 v.ownBlock) (hm : Moved ((wr.alloc o).drew) v v6) : AskB fb tb kb nf sv w7 v6 := by
  obtain ⟨h1, h2, h3, h4⟩ := hA
  have hk : ∀ j, j < wr.heap.size → (∀ b ∈ v.ownBlock.toList, b ≠ j) → w7.heap[j]? = wr.heap[j]? := fun j hj hn =>
    (hg.block j (by show j < (wr.alloc o).heap.size; simp; omega) (fun e => hn j (by rw [← e]; simp) rfl)).trans (Below.heap_alloc wr o j hj)
  refine ⟨h1.keep (hk _ h1.lt (fun b hb => (h4 b hb).2.1)), h2.keep (hk _ h2.lt (fun b hb => (h4 b hb).2.2.1)), h3.keep (hk _ h3.lt (fun b hb => (h4 b hb).2.2.2)), fun b hb => ?_⟩
  rcases hm with e | h
  · exact h4 b (by rw [← e]; exact hb)
  · have := h b hb
    have hs : wr.heap.size + 1 ≤ b := by simpa using this
    have := h1.lt
    have := h2.lt
    have := h3.lt
    exact ⟨by omega, by omega, by omega, by omega⟩
theorem ask_below {w wr w7 : World} {v : Value} {o : Obj} (hU : Below w.heap.size w wr) (hb : ∀ b ∈ v.ownBlock.toList, w.heap.size ≤ b) (hg : ((wr.alloc o).drew).grownBy w7 v.ownBlock) : Below w.heap.size w w7 :=
  Below.grown (Below.drew (Below.alloc hU hU.size o)) hg (by show w.heap.size ≤ (wr.alloc o).heap.size; have := hU.size; simp; omega) (fun j hj => hb j (by rw [hj]; simp))
theorem ask_tag {wr : World} {tb : Nat} (h : cls wr tb #[.int .i64 1048608, .int .i64 2097165, .int .i64 2097166, .int .i64 524312] 66) {k : Nat} (hk : k < 4) : wr.cell? ⟨tb, k, none⟩ = some (.int .i64 (nameT k)) := by
  rcases (show k = 0 ∨ k = 1 ∨ k = 2 ∨ k = 3 by omega) with rfl | rfl | rfl | rfl <;> exact h.at rfl
theorem ask_kind {wr : World} {kb : Nat} (h : cls wr kb #[.string ⟨#[76, 79]⟩, .string ⟨#[85, 73]⟩, .string ⟨#[85, 73]⟩, .string ⟨#[85, 73]⟩] 58) {k : Nat} (hk : k < 4) : wr.cell? ⟨kb, k, none⟩ = some (.string (bs (kindT (nameT k)))) := by
  rcases (show k = 0 ∨ k = 1 ∨ k = 2 ∨ k = 3 by omega) with rfl | rfl | rfl | rfl <;> exact h.at rfl
theorem ask_name {wr : World} {fb : Nat} {nf : Nat → By} {sv : Value} (h : cls wr fb #[.string (bs (nf 0)), .string (bs (nf 1)), .string (bs (nf 2)), .string (bs (nf 3)), sv] 61) {k : Nat} (hk : k < 4) : wr.cell? ⟨fb, k, none⟩ = some (.string (bs (nf k))) := by
  rcases (show k = 0 ∨ k = 1 ∨ k = 2 ∨ k = 3 by omega) with rfl | rfl | rfl | rfl <;> exact h.at rfl
/-- A fact's value. -/
def factV (nf : Nat → By) (sv : Value) : Value := .agg #[.string (bs (nf 0)), .string (bs (nf 1)), .string (bs (nf 2)), .string (bs (nf 3)), sv]
set_option maxRecDepth 20000 in
set_option maxHeartbeats 4000000 in
theorem asked_any (lvl : Nat) (hlv : lvl < 4) (nf : Nat → By) (sv : Value) (F : Nat → Prop) (w : World) (ad : Addr) (len cap : Nat) (xs : List (El 3)) (h : Rd w F 3 (.slice (some ad) len cap) xs) (hF : ∀ j, F j → j < w.heap.size) (hn : NfOk lvl nf) (hx : XOk lvl xs) :
    Calls Tryz.prog 31 #[.int .i64 lvl, factV nf sv, .slice (some ad) len cap] w fun e w' => e = .returned (.string (bs (wrS false 0 3 (askQ lvl nf xs)))) ∧ Below w.heap.size w w' := by
  obtain ⟨i0, hi0, hz0, hz1, hz2⟩ := info_parts info_element
  have HI := hid hi0
  have H := hid h
  have HX := hid hx
  have HN := hid hn
  have HF := hid hF
  clear hi0 h hx hn hF
  unfold factV
  go_enter Tryz.func31, Tryz.ntmps31
  go_wp2_with fail
  have UA := Below.alloc (Below.refl w.heap.size w) (Nat.le_refl _) (.cells #[.string (bs (nf 0)), .string (bs (nf 1)), .string (bs (nf 2)), .string (bs (nf 3)), sv] 61)
  have FA : cls (w.alloc (.cells #[.string (bs (nf 0)), .string (bs (nf 1)), .string (bs (nf 2)), .string (bs (nf 3)), sv] 61)) w.heap.size #[.string (bs (nf 0)), .string (bs (nf 1)), .string (bs (nf 2)), .string (bs (nf 3)), sv] 61 := heap_alloc_new _ _
  generalize w.alloc (.cells #[.string (bs (nf 0)), .string (bs (nf 1)), .string (bs (nf 2)), .string (bs (nf 3)), sv] 61) = WA at UA FA ⊢
  go_at_call 34
  refine (kwords_any WA).mono ?_
  rintro e w1 ⟨b1, rfl, _, hc1, u1⟩
  have c1 := hc1 lvl hlv
  have U1 := hid (UA.trans (u1.mono UA.size))
  have F1 := hid (FA.up u1)
  clear hc1 u1 UA FA
  go_wp2_with fail
  have E1 : cls (w1.alloc (.cells #[.int .i64 524370, .string ⟨#[67, 83]⟩, .string (bs (wordL lvl)), .slice none 0 0] 73)) w1.heap.size #[.int .i64 524370, .string ⟨#[67, 83]⟩, .string (bs (wordL lvl)), .slice none 0 0] 73 := heap_alloc_new _ _
  have U2 := hid (Below.alloc U1.out U1.out.size (.cells #[.int .i64 524370, .string ⟨#[67, 83]⟩, .string (bs (wordL lvl)), .slice none 0 0] 73))
  have F2 := hid (F1.out.up (Below.alloc (Below.refl w1.heap.size w1) (Nat.le_refl _) (.cells #[.int .i64 524370, .string ⟨#[67, 83]⟩, .string (bs (wordL lvl)), .slice none 0 0] 73)))
  have hB1 := hid U1.out.size
  have z0 := hid (show w1.heap.size ≠ w.heap.size from by have := F1.out.lt; omega)
  clear c1 U1 F1
  generalize w1.alloc (.cells #[.int .i64 524370, .string ⟨#[67, 83]⟩, .string (bs (wordL lvl)), .slice none 0 0] 73) = w2 at E1 U2 F2 ⊢
  go_at_call 27
  refine (ktags_any w2).mono ?_
  rintro e w3 ⟨rfl, u3⟩
  have U3 := hid (U2.out.trans (u3.mono U2.out.size))
  have F3 := hid (F2.out.up u3)
  have E3 := hid (E1.up u3)
  clear u3 E1 U2 F2
  go_wp2_with fail
  have T4 : cls (w3.alloc (.cells #[.int .i64 1048608, .int .i64 2097165, .int .i64 2097166, .int .i64 524312] 66)) w3.heap.size #[.int .i64 1048608, .int .i64 2097165, .int .i64 2097166, .int .i64 524312] 66 := heap_alloc_new _ _
  have u4 := Below.alloc (Below.refl w3.heap.size w3) (Nat.le_refl _) (.cells #[.int .i64 1048608, .int .i64 2097165, .int .i64 2097166, .int .i64 524312] 66)
  have U4 := hid (U3.out.trans (u4.mono U3.out.size))
  have F4 := hid (F3.out.up u4)
  have E4 := hid (E3.out.up u4)
  have z4 := hid (show w3.heap.size ≠ w.heap.size ∧ w1.heap.size ≠ w3.heap.size from ⟨by have := F3.out.lt; omega, by have := E3.out.lt; omega⟩)
  clear u4 U3 F3 E3
  generalize w3.alloc (.cells #[.int .i64 1048608, .int .i64 2097165, .int .i64 2097166, .int .i64 524312] 66) = w4 at T4 U4 F4 E4 ⊢
  go_at_call 28
  refine (kkinds_any w4).mono ?_
  rintro e w5 ⟨rfl, u5⟩
  have U5 := hid (U4.out.trans (u5.mono U4.out.size))
  have F5 := hid (F4.out.up u5)
  have E5 := hid (E4.out.up u5)
  have T5 := hid (T4.up u5)
  clear u5 U4 F4 E4 T4
  go_wp2_with fail
  have K6 : cls (w5.alloc (.cells #[.string ⟨#[76, 79]⟩, .string ⟨#[85, 73]⟩, .string ⟨#[85, 73]⟩, .string ⟨#[85, 73]⟩] 58)) w5.heap.size #[.string ⟨#[76, 79]⟩, .string ⟨#[85, 73]⟩, .string ⟨#[85, 73]⟩, .string ⟨#[85, 73]⟩] 58 := heap_alloc_new _ _
  have u6 := Below.alloc (Below.refl w5.heap.size w5) (Nat.le_refl _) (.cells #[.string ⟨#[76, 79]⟩, .string ⟨#[85, 73]⟩, .string ⟨#[85, 73]⟩, .string ⟨#[85, 73]⟩] 58)
  have U6 := hid (U5.out.trans (u6.mono U5.out.size))
  have F6 := hid (F5.out.up u6)
  have E6 := hid (E5.out.up u6)
  have T6 := hid (T5.out.up u6)
  have z6 := hid (show w1.heap.size ≠ w5.heap.size from by have := E5.out.lt; omega)
  clear u6 U5 F5 E5 T5
  generalize w5.alloc (.cells #[.string ⟨#[76, 79]⟩, .string ⟨#[85, 73]⟩, .string ⟨#[85, 73]⟩, .string ⟨#[85, 73]⟩] 58) = w6 at K6 U6 F6 E6 T6 ⊢
  have K6' := hid K6
  clear K6
  go_loopw [7, 10] (fun v i wr => ∃ (k : Nat) (adv : Option Addr) (capv : Nat) (ys : List Value), k ≤ lvl ∧ i = .int .i64 k ∧ v = .slice adv (k + 1) capv ∧ Hid (wr.ownsRow 0 73 4 (.slice adv (k + 1) capv) (k + 1) ys) ∧ Hid (Ls 4 (CpE w F 2) ys (askP lvl nf k) []) ∧ Hid (AskB w.heap.size w3.heap.size w5.heap.size nf sv wr (.slice adv (k + 1) capv)) ∧ Hid (Below w.heap.size w wr)) (fun _ i _ => lvl - (intOf i).toNat)
  case atStart =>
    refine ⟨0, _, _, _, Nat.zero_le _, rfl, rfl, own_of_cls E6.out, ⟨_, [], [], [], rfl, rfl, ⟨rfl, _, rfl, RdI.nil _ _ _⟩, ⟨rfl, rfl⟩, rfl⟩, ⟨F6.out, T6.out, K6'.out, fun b hb => ?_⟩, U6⟩
    simp only [Value.ownBlock, Option.toList_some, List.mem_singleton] at hb
    subst hb
    exact ⟨hB1.out, z0.out, z4.out.2, z6.out⟩
  case round =>
    obtain ⟨k, adv, capv, ys, hk, rfl, rfl, hown, hls, hA, hU⟩ := hrel
    clear E6 F6 T6 K6' U6
    by_cases hkl : k < lvl
    · obtain ⟨hf, ht, hkk, hbl⟩ := hA.out
      have t9 := ask_tag ht (show k < 4 by omega)
      have k9 := ask_kind hkk (show k < 4 by omega)
      have f9 := ask_name hf (show k < 4 by omega)
      have hst := hid (askP_succ lvl nf k)
      have HBL := hid hbl
      have HF1 := hid hf
      have HT1 := hid ht
      have HK1 := hid hkk
      have HA := hid hA.out
      clear hf ht hkk hbl hA
      generalize nameT k = tk at t9 k9 hst
      have hk4 : (k : Int) < 4 := by omega
      go_wp2_with fail
      go_region_law (refine step_append_sep rfl (.tmp 26) (.tmp 38) 59 rfl 73 i0 zeroE 4 64 Tryz.underlying59 HI.out hz0 hz1 hz2 rfl (by decide) _ _ _ (by simp [Act.eval]) (hown.out.alloc _) ⟨wr.heap.size, 0, none⟩ 1 1 [.int .i64 tk, .string (bs (kindT tk)), .string (bs (nf k)), .slice none 0 0] (by simp [Act.eval]) rfl (four_at _ _ _ _ _ _ _ (by simp)) four_one (by unfold maxLen; omega) (by omega) ?_; intro v6 w7 hown6 hg6 hm6)
      all_goals have A7 := hid (AskB.push HA.out hg6 hm6)
      all_goals have U7 := hid (ask_below hU.out (fun b hb => (HBL.out b hb).1) hg6)
      all_goals have O7 := hid hown6
      all_goals obtain ⟨g7, cap7, rfl, _⟩ := own_some hown6
      all_goals clear hown6 hg6 hm6
      all_goals go_wp2
      all_goals go_roundw
      all_goals first
        | (case measure => simp [intOf]; omega)
        | skip
      all_goals
        refine ⟨k + 1, _, _, _, by omega, by go_num, rfl, O7, ?_, A7, U7⟩
        unfold Hid
        rw [hst.out]
        exact Ls.snoc (k := 4) (R := CpE w F 2) (c := [.int .i64 tk, .string (bs (kindT tk)), .string (bs (nf k)), .slice none 0 0]) (x := flE 2 tk (kindT tk) (nf k)) (b := []) rfl ⟨rfl, _, rfl, RdI.nil _ _ _⟩ hls.out
    · obtain rfl : k = lvl := by omega
      obtain ⟨news, hn1, hn2, hn3⟩ := H.out.news
      have hn4 := hid (show ∀ j u, news[j]? = some u → wr.cell? (ad.add j) = some u from fun j u hu => (hU.out.cell (World.block_lt_of_cell? _ _ (hn2 j u hu))).trans (hn2 j u hu))
      have hn5 := hid hn3
      have hx8 := hid HX.out.1
      obtain ⟨_, _, hsl⟩ := H.out.slice
      have hlen : len = xs.length := by simp only [Value.slice.injEq] at hsl; exact hsl.2.1
      subst hlen
      have hnl := hid (show news.length = xs.length * 4 from hn1.length)
      have HA := hid hA.out
      have hL8 := hid (show Ls 4 (CpE w F 2) (ys ++ news) (askL k nf xs) [] from Ls.app hn1 hls.out)
      have hq8 := hid (askL_len hlv nf HX.out)
      have hle8 : xs.length ≤ 8 := hx8.out
      have hkk4 : k ≤ 4 := by omega
      clear hn1 hn2 hn3 hsl hA hls hkl hk
      go_wp2_with (at_builtin; refine wpList_append_sep _ rfl _ _ 59 rfl 73 i0 zeroE 4 64 Tryz.underlying59 HI.out hz0 hz1 hz2 rfl (by decide) _ _ _ rfl hown.out ad xs.length cap news rfl hnl.out hn4.out hn5.out (by unfold maxLen; omega) (by omega) ?_)
      intro v8 w8 hown8 hg8 hm8
      have U8 := hid (Below.grown hU.out hg8 hU.out.size (fun j hj => (HA.out.2.2.2 j (by rw [hj]; simp)).1))
      have R8 := hid (show Row w8 73 4 (CpE w F 2) v8 (askL k nf xs) v8.ownBlock.toList from ⟨ys ++ news, [], by rw [show (askL k nf xs).length = k + 1 + xs.length by unfold askL; rw [List.length_cons, List.length_append, List.length_map, List.length_range]; omega]; exact hown8, hL8.out, by simp⟩)
      have Q8 := hid (rd_cp (F' := fun j => F j ∨ j ∈ v8.ownBlock.toList) R8.out U8.out (fun j hj => Or.inl hj) (fun j hj => Or.inr hj))
      have B8 := hid (show ∀ j ∈ v8.ownBlock.toList, j < w8.heap.size from ownsRow_lt hown8)
      obtain ⟨ad8, cap8, rfl⟩ := own_slice2 hown8
      clear hown8 hg8 hm8 hown hL8
      go_wp2_with fail
      go_at_call 59
      refine (ksorted_any 2 _ w8 _ (askL k nf xs) Q8.out (by have := hq8.out; omega)).mono ?_
      rintro e w9 ⟨v9, rfl, u9, hr9, hn9⟩
      have U9 := hid (U8.out.trans (u9.mono U8.out.size))
      have Q9 := hid (rd_cp (F' := fun j => (F j ∨ j ∈ (Value.slice ad8 (k + 1 + xs.length) cap8).ownBlock.toList) ∨ j ∈ v9.ownBlock.toList) hr9 u9 (fun j hj => Or.inl hj) (fun j hj => Or.inr hj))
      have B9 := hid (show ∀ j, ((F j ∨ j ∈ (Value.slice ad8 (k + 1 + xs.length) cap8).ownBlock.toList) ∨ j ∈ v9.ownBlock.toList) → j < w9.heap.size from fun j hj => by
        have h1 := U9.out.size
        have h2 := u9.size
        rcases hj with (hj | hj) | hj
        · have := HF.out j hj; omega
        · have := B8.out j hj; omega
        · exact (hn9.2 j hj).2)
      obtain ⟨ad9, cap9, rfl⟩ := hr9.slice
      obtain ⟨q1, q2, q3⟩ := askQ_err hlv HN.out HX.out
      have C := hid (Encode_any 3 (Nat.le_refl _) _ w9 _ (askQ k nf xs) B9.out Q9.out (fun _ => Nat.le_trans q2 (by decide)))
      have Q1 := hid q1
      clear q1 q2 q3 hr9 hn9 u9
      go_wp2_with fail
      go_at_call 37
      refine C.out.mono ?_
      rintro e wA ⟨uA, ⟨hne, _⟩ | ⟨_, rfl⟩⟩
      · exact absurd Q1.out hne
      have UA := hid (U9.out.trans (uA.mono U9.out.size))
      clear uA C
      go_wp2
      go_ret
      exact ⟨rfl, UA.out⟩
end Go.Proofs.YtaokifbpakbgdaaGreatDoor

/- The seven values that may stand in a description that numbers speak of. -/
namespace Go.Proofs.YtaokifbpakbgdaaGreatDoor
open Go.RowKit

def LetS (s : ByteArray) : Prop := Lettered s.data.toList ∧ s.data.toList.length ≤ 5
def way (k : Nat) : By := if k = 0 then [67, 84] else if k = 1 then [77, 82] else [85, 83]
/-- The cells of the seven values. -/
def vals7 (sd st u1 u2 : ByteArray) (k5 k6 k7 : Nat) : Array Value := #[.int .i64 1048592, .string ⟨#[80, 78]⟩, .string u1, .slice none 0 0, .int .i64 524320, .string ⟨#[68, 65]⟩, .string sd, .slice none 0 0, .int .i64 524336, .string ⟨#[84, 77]⟩, .string st, .slice none 0 0, .int .i64 524368, .string ⟨#[76, 79]⟩, .string u2, .slice none 0 0, .int .i64 524384, .string ⟨#[67, 83]⟩, .string (bs (way k5)), .slice none 0 0, .int .i64 2097169, .string ⟨#[73, 83]⟩, .string (bs (dgs 2 k6)), .slice none 0 0, .int .i64 2097171, .string ⟨#[73, 83]⟩, .string (bs (dgs 1 k7)), .slice none 0 0]
/-- What a value of a kind must be. -/
def ValOk (k v : By) : Prop := chk k v = 0 ∧ v.length ≤ 64 ∧ v.getLast? ≠ some 32
instance (k v : By) : Decidable (ValOk k v) := by unfold ValOk; infer_instance
theorem let_PN {u : ByteArray} (h : LetS u) : ValOk [80, 78] u.data.toList := by
  obtain ⟨h1, h2⟩ := h
  refine ⟨?_, by omega, by rw [lettered_last h1]; decide⟩
  rw [chk_PN h1, if_pos]
  obtain ⟨V, e, _, _⟩ := h1
  rw [e] at h2 ⊢
  rw [List.length_append, List.length_singleton] at h2
  rw [List.count_append]
  have := List.count_le_length (a := (94 : UInt8)) (l := V)
  have e2 : List.count (94 : UInt8) [122] = 0 := by decide
  omega
theorem let_LO {u : ByteArray} (h : LetS u) : ValOk [76, 79] u.data.toList := by
  obtain ⟨h1, h2⟩ := h
  exact ⟨chk_LO h1, by omega, by rw [lettered_last h1]; decide⟩
theorem way_ok : ∀ k, k < 3 → ValOk [67, 83] (way k) := by decide
theorem no2_ok : ∀ k, k < 20 → ValOk [73, 83] (dgs 2 k) := by decide
theorem no1_ok : ∀ k, k < 20 → ValOk [73, 83] (dgs 1 k) := by decide
theorem dok_val {t : Int} {k v : By} (hk : kindT t = k) (h1 : isK k = true) (hq : k ≠ SQ) (hp : padB k = 32) (h2 : 0 ≤ t) (h3 : t ≤ 4294967295) (h4 : t / 65536 ≠ 65534) (h : ValOk k v) : DOk (flE 2 t k v) :=
  dok_flat hk h1 hq h2 h3 h4 h.2.1 (by rw [hp]; exact h.2.2) h.1
/-- The cells of a value, and that it may stand in a description. -/
theorem val7_at {W : World} {b : Nat} {sd st u1 u2 : ByteArray} {k5 k6 k7 : Nat} (hb : cls W b (vals7 sd st u1 u2 k5 k6 k7) 73) (hd : ValOk [68, 65] sd.data.toList) (ht : ValOk [84, 77] st.data.toList) (h1 : LetS u1) (h2 : LetS u2) (h5 : k5 < 3) (h6 : k6 < 20) (h7 : k7 < 20) {k : Nat} (hk : k < 7) :
    ∃ t kd vl, W.cell? ⟨b, k * 4, none⟩ = some (.int .i64 t) ∧ W.cell? ⟨b, k * 4 + 1, none⟩ = some (.string (bs kd)) ∧ W.cell? ⟨b, k * 4 + 2, none⟩ = some (.string (bs vl)) ∧ W.cell? ⟨b, k * 4 + 3, none⟩ = some (.slice none 0 0) ∧ DOk (flE 2 t kd vl) ∧ restT[k]? = some t := by
  rcases (show k = 0 ∨ k = 1 ∨ k = 2 ∨ k = 3 ∨ k = 4 ∨ k = 5 ∨ k = 6 by omega) with rfl | rfl | rfl | rfl | rfl | rfl | rfl
  · exact ⟨1048592, [80, 78], u1.data.toList, hb.at rfl, hb.at rfl, hb.at rfl, hb.at rfl, dok_val (by decide) (by decide) (by decide) (by decide) (by decide) (by decide) (by decide) (let_PN h1), rfl⟩
  · exact ⟨524320, [68, 65], sd.data.toList, hb.at rfl, hb.at rfl, hb.at rfl, hb.at rfl, dok_val (by decide) (by decide) (by decide) (by decide) (by decide) (by decide) (by decide) hd, rfl⟩
  · exact ⟨524336, [84, 77], st.data.toList, hb.at rfl, hb.at rfl, hb.at rfl, hb.at rfl, dok_val (by decide) (by decide) (by decide) (by decide) (by decide) (by decide) (by decide) ht, rfl⟩
  · exact ⟨524368, [76, 79], u2.data.toList, hb.at rfl, hb.at rfl, hb.at rfl, hb.at rfl, dok_val (by decide) (by decide) (by decide) (by decide) (by decide) (by decide) (by decide) (let_LO h2), rfl⟩
  · exact ⟨524384, [67, 83], way k5, hb.at rfl, hb.at rfl, hb.at rfl, hb.at rfl, dok_val (by decide) (by decide) (by decide) (by decide) (by decide) (by decide) (by decide) (way_ok k5 h5), rfl⟩
  · exact ⟨2097169, [73, 83], dgs 2 k6, hb.at rfl, hb.at rfl, hb.at rfl, hb.at rfl, dok_val (by decide) (by decide) (by decide) (by decide) (by decide) (by decide) (by decide) (no2_ok k6 h6), rfl⟩
  · exact ⟨2097171, [73, 83], dgs 1 k7, hb.at rfl, hb.at rfl, hb.at rfl, hb.at rfl, dok_val (by decide) (by decide) (by decide) (by decide) (by decide) (by decide) (by decide) (no1_ok k7 h7), rfl⟩
/-- Letters can be asked for as they are. -/
theorem let_Nm {u : ByteArray} (h : LetS u) : NmOk LO u.data.toList := by
  have hv := let_LO h
  have hm := lettered_mem h.1
  have hne : u.data.toList ≠ [] := fun e => by have := (lettered_len h.1).1; rw [e] at this; simp at this
  have hal : ∀ c ∈ alphabet, c ≠ 42 ∧ c ≠ 63 ∧ c ≠ 92 := by decide
  refine ⟨hv.1, hne, hv.2.1, hv.2.2, ?_, fun h92 => ?_⟩
  · rw [List.any_eq_false]
    intro c hc hw
    have hc2 : c ≠ 42 ∧ c ≠ 63 := by
      rcases hm c hc with k | rfl
      · exact ⟨(hal c k).1, (hal c k).2.1⟩
      · decide
    simp only [Bool.or_eq_true, decide_eq_true_eq] at hw
    rcases hw with hw | hw
    · exact hc2.1 (UInt8.toNat_inj.1 (by simpa using hw))
    · exact hc2.2 (UInt8.toNat_inj.1 (by simpa using hw))
  · rcases hm _ h92 with k | k
    · exact (hal _ k).2.2 rfl
    · exact absurd k (by decide)
theorem mean_Nm : ∀ n, n < 10 → NmOk LO (109 :: dgs 1 n) := by decide
/-- One tag more of those that may come. -/
theorem sub_snoc {r : List (El 3)} {x : El 3} {k : Nat} (h : (r.map (·.1)).Sublist (restT.take k)) (hx : restT[k]? = some x.1) : ((r ++ [x]).map (·.1)).Sublist (restT.take (k + 1)) := by
  have hk := (List.getElem?_eq_some_iff.1 hx).1
  have e := (List.getElem?_eq_some_iff.1 hx).2
  rw [List.take_succ_eq_append_getElem hk, List.map_append, e]
  exact h.append (List.Sublist.refl _)
theorem sub_more {r : List (El 3)} {k : Nat} (h : (r.map (·.1)).Sublist (restT.take k)) : (r.map (·.1)).Sublist (restT.take (k + 1)) := h.trans (List.take_sublist_take_left (by omega))
end Go.Proofs.YtaokifbpakbgdaaGreatDoor

/- The items of a description that numbers speak of, in memory. -/
namespace Go.Proofs.YtaokifbpakbgdaaGreatDoor
open Go.RowKit

/-- The cell of an item, its elements in a block of their own. -/
def ItK (w : World) (c : List Value) (s : List (El 2)) (b : List Nat) : Prop := ∃ gb v1 v2, c = [.slice (some ⟨gb, 0, none⟩) 2 2] ∧ b = [gb] ∧ NmOk LO v1 ∧ NmOk LO v2 ∧ s = itW v1 v2 ∧
  cls w gb #[.int .i64 524544, .string (bs LO), .string (bs v1), .slice none 0 0, .int .i64 524548, .string (bs LO), .string (bs v2), .slice none 0 0] 73
theorem ItK.keep (w w' : World) (c : List Value) (s : List (El 2)) (b : List Nat) (h : ItK w c s b) (k : ∀ j ∈ b, w'.heap[j]? = w.heap[j]?) : ItK w' c s b := by
  obtain ⟨gb, v1, v2, h1, h2, h3, h4, h5, h6⟩ := h
  exact ⟨gb, v1, v2, h1, h2, h3, h4, h5, h6.keep (k gb (by rw [h2]; exact List.mem_singleton.2 rfl))⟩
theorem itW_rd {w : World} {F : Nat → Prop} {gb : Nat} {v1 v2 : By} (h : cls w gb #[.int .i64 524544, .string (bs LO), .string (bs v1), .slice none 0 0, .int .i64 524548, .string (bs LO), .string (bs v2), .slice none 0 0] 73) (hF : F gb) : Rd w F 2 (.slice (some ⟨gb, 0, none⟩) 2 2) (itW v1 v2) := by
  refine ⟨some ⟨gb, 0, none⟩, 2, rfl, fun i x hx => ⟨_, rfl, hF, ?_⟩⟩
  have hi := (List.getElem?_eq_some_iff.1 hx).1
  rcases (show i = 0 ∨ i = 1 by have : (itW v1 v2).length = 2 := rfl; omega) with rfl | rfl
  · obtain rfl := Option.some.inj hx
    exact ⟨h.at rfl, h.at rfl, h.at rfl, _, h.at rfl, RdI.nil _ _ _⟩
  · obtain rfl := Option.some.inj hx
    exact ⟨h.at rfl, h.at rfl, h.at rfl, _, h.at rfl, RdI.nil _ _ _⟩
theorem its_rd {w : World} {F : Nat → Prop} {v : Value} {its : Its 2} {bl : List Nat} (h : Row w 182 1 (ItK w) v its bl) (hF : ∀ j ∈ bl, F j) : RdI w F 2 v its := by
  refine Row.read h F hF _ (fun a c x b _ _ => ?_)
  rintro ⟨gb, v1, v2, rfl, rfl, _, _, rfl, hc⟩ _ hb hcell
  have c0 := hcell 0 _ rfl
  rw [Addr.add_zero'] at c0
  exact ⟨_, c0, itW_rd hc (hF gb (hb gb (List.mem_singleton.2 rfl)))⟩
end Go.Proofs.YtaokifbpakbgdaaGreatDoor
