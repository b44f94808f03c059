/-
  Several texts in one; what each one has stands at its head.
-/
import Derived.Test.YtaokifbpakbgdaaGreatDoorPut2
import Derived.Test.YtaokifbpakbgdaaGreatDoorPut11
/- A pattern made of a text fits it, and not with a byte more behind it (no program). -/
namespace Go.Proofs.YtaokifbpakbgdaaGreatDoor
open Go.RowKit

def alphabet : Bs := [97, 98, 99, 65, 66, 67, 32, 120, 94, 49]
/-- Letters, and a z at the end. -/
def Lettered (l : Bs) : Prop := ∃ V : Bs, l = V ++ [122] ∧ V.length ≤ 40 ∧ ∀ c ∈ V, c ∈ alphabet
/-- The pattern p is made of the text, byte by byte. -/
def Made : Bs → Bs → Prop
  | [], p => p = []
  | x :: v, p => ∃ q r, p = q ++ r ∧ (q = [42] ∨ q = [63] ∨ q = [x] ∨ q = [42, x]) ∧ Made v r
theorem made_snoc (x : UInt8) (q : Bs) (hq : q = [42] ∨ q = [63] ∨ q = [x] ∨ q = [42, x]) : ∀ (v p : Bs), Made v p → Made (v ++ [x]) (p ++ q)
  | [], p, h => by
    have h' : p = [] := h
    subst h'
    exact ⟨q, [], by simp, hq, rfl⟩
  | y :: v, p, h => by
    obtain ⟨q', r, rfl, hq', hr⟩ := h
    exact ⟨q', r ++ q, by simp, hq', made_snoc x q hq v r hr⟩
theorem made_fits : ∀ (v p : Bs), (∀ c ∈ v, c ≠ 42) → Made v p → glob p v = true
  | [], p, _, h => by
    have h' : p = [] := h
    subst h'; rfl
  | x :: v, p, hn, h => by
    obtain ⟨q, r, rfl, hq, hr⟩ := h
    have ih := made_fits v r (fun c hc => hn c (by simp [hc])) hr
    have hx : x ≠ 42 := hn x (by simp)
    rcases hq with rfl | rfl | rfl | rfl
    · rw [List.singleton_append, glob_star]; exact ⟨1, by simp, by simpa using ih⟩
    · rw [List.singleton_append, glob_cons _ _ _ _ (by decide)]; simp [ih]
    · rw [List.singleton_append, glob_cons _ _ _ _ hx]; simp [ih]
    · rw [show ([42, x] ++ r : Bs) = 42 :: (x :: r) from rfl, glob_star]
      refine ⟨0, Nat.zero_le _, ?_⟩
      rw [List.drop_zero, glob_cons _ _ _ _ hx]; simp [ih]
theorem made_mem : ∀ (v p : Bs), Made v p → ∀ c ∈ p, c = 42 ∨ c = 63 ∨ c ∈ v
  | [], p, h, c, hc => by
    have h' : p = [] := h
    subst h'; simp at hc
  | x :: v, p, h, c, hc => by
    obtain ⟨q, r, rfl, hq, hr⟩ := h
    rw [List.mem_append] at hc
    rcases hc with hc | hc
    · rcases hq with rfl | rfl | rfl | rfl
      · exact Or.inl (by simpa using hc)
      · exact Or.inr (Or.inl (by simpa using hc))
      · exact Or.inr (Or.inr (by simp at hc; simp [hc]))
      · simp at hc
        rcases hc with rfl | rfl
        · exact Or.inl rfl
        · exact Or.inr (Or.inr (by simp))
    · rcases made_mem v r hr c hc with h | h | h
      · exact Or.inl h
      · exact Or.inr (Or.inl h)
      · exact Or.inr (Or.inr (by simp [h]))
/-- What ends with a byte that is neither fits nothing that ends otherwise. -/
theorem glob_last (c : UInt8) (h1 : c ≠ 42) (h2 : c ≠ 63) : ∀ (p v : Bs), glob (p ++ [c]) v = true → v.getLast? = some c
  | [], v, h => by
    cases v with
    | nil => rw [List.nil_append, glob_nil c [] h1] at h; cases h
    | cons x v =>
      rw [List.nil_append, glob_cons c x [] v h1] at h
      simp only [Bool.and_eq_true, Bool.or_eq_true, decide_eq_true_eq, h2, false_or] at h
      obtain ⟨rfl, h⟩ := h
      have : v = [] := by cases v with | nil => rfl | cons y v => cases h
      rw [this]; rfl
  | d :: p, v, h => by
    by_cases hd : d = 42
    · subst hd
      rw [List.cons_append, glob_star] at h
      obtain ⟨t, _, h⟩ := h
      have := glob_last c h1 h2 p _ h
      obtain ⟨ys, hys⟩ := List.getLast?_eq_some_iff.1 this
      rw [List.getLast?_eq_some_iff]
      exact ⟨v.take t ++ ys, by rw [List.append_assoc, ← hys, List.take_append_drop]⟩
    · cases v with
      | nil => rw [List.cons_append, glob_nil d _ hd] at h; cases h
      | cons x v =>
        rw [List.cons_append, glob_cons d x _ v hd, Bool.and_eq_true] at h
        obtain ⟨ys, hys⟩ := List.getLast?_eq_some_iff.1 (glob_last c h1 h2 p v h.2)
        rw [List.getLast?_eq_some_iff]
        exact ⟨x :: ys, by rw [hys]; rfl⟩
theorem glob_map (f : UInt8 → UInt8) (h42 : f 42 = 42) (h63 : f 63 = 63) (hf : ∀ c, f c = 42 → c = 42) : ∀ (p v : Bs), glob p v = true → glob (p.map f) (v.map f) = true
  | [], v, h => by
    cases v with
    | nil => rfl
    | cons x v => cases h
  | c :: p, v, h => by
    by_cases hc : c = 42
    · subst hc
      rw [glob_star] at h
      obtain ⟨t, ht, h⟩ := h
      rw [List.map_cons, h42, glob_star]
      exact ⟨t, by simpa using ht, by rw [← List.map_drop]; exact glob_map f h42 h63 hf p _ h⟩
    · cases v with
      | nil => rw [glob_nil c p hc] at h; cases h
      | cons x v =>
        rw [glob_cons c x p v hc] at h
        simp only [Bool.and_eq_true, Bool.or_eq_true, decide_eq_true_eq] at h
        rw [List.map_cons, List.map_cons, glob_cons _ _ _ _ (fun e => hc (hf c e))]
        simp only [Bool.and_eq_true, Bool.or_eq_true, decide_eq_true_eq]
        refine ⟨?_, glob_map f h42 h63 hf p v h.2⟩
        rcases h.1 with rfl | rfl
        · exact Or.inl h63
        · exact Or.inr rfl
theorem of_fin (p : UInt8 → Bool) (h : ∀ n : Fin 256, p (UInt8.ofNat n.val) = true) (c : UInt8) : p c = true := by
  have := h ⟨c.toNat, UInt8.toNat_lt c⟩
  simpa using this
theorem low_42 (c : UInt8) (h : Lib.lowerB c = 42) : c = 42 := by
  have := of_fin (fun c => !decide (Lib.lowerB c = 42) || decide (c = 42)) (by decide +kernel) c
  simpa [h] using this
theorem low_low (c : UInt8) : Lib.lowerB (Lib.lowerB c) = Lib.lowerB c := by
  have := of_fin (fun c => decide (Lib.lowerB (Lib.lowerB c) = Lib.lowerB c)) (by decide +kernel) c
  simpa using this
theorem lower_lower (l : Bs) : Lib.toLowerA (Lib.toLowerA l) = Lib.toLowerA l := by
  unfold Lib.toLowerA; rw [List.map_map]; congr 1; funext c; exact low_low c
/- What Match answers of a pattern that is made of letters. -/
theorem alpha_text (c : UInt8) (h : c ∈ alphabet ∨ c = 122 ∨ c = 42 ∨ c = 63 ∨ c = 49) : textC c = true ∧ textC (Lib.lowerB c) = true := by
  have := of_fin (fun c => !decide (c ∈ alphabet ∨ c = 122 ∨ c = 42 ∨ c = 63 ∨ c = 49) || (textC c && textC (Lib.lowerB c))) (by decide +kernel) c
  simpa [h] using this
theorem lettered_mem {l : Bs} (h : Lettered l) : ∀ c ∈ l, c ∈ alphabet ∨ c = 122 := by
  obtain ⟨V, rfl, _, hV⟩ := h
  intro c hc
  rw [List.mem_append] at hc
  rcases hc with hc | hc
  · exact Or.inl (hV c hc)
  · exact Or.inr (by simpa using hc)
theorem lettered_len {l : Bs} (h : Lettered l) : 1 ≤ l.length ∧ l.length ≤ 41 := by
  obtain ⟨V, rfl, hl, _⟩ := h
  simp; omega
theorem lettered_last {l : Bs} (h : Lettered l) : l.getLast? = some 122 := by
  obtain ⟨V, rfl, _, _⟩ := h; simp
theorem lettered_txt {l : Bs} (h : Lettered l) : txtB l = true := by
  have hl := lettered_len h
  have hne : ¬ l = [] := fun e => by rw [e] at hl; simp at hl
  have ht : isTextB l = true := by
    unfold isTextB
    rw [decide_eq_true (by omega), Bool.true_and, List.all_eq_true]
    intro c hc
    exact (alpha_text c (by rcases lettered_mem h c hc with h | h <;> simp [h])).1
  unfold txtB
  rw [ht, lettered_last h]
  simp [hne]
theorem chk_LO {l : Bs} (h : Lettered l) : chk [76, 79] l = 0 := by
  have e : chkF [76, 79] l = 0 := by
    show (if txtB l then (0 : Int) else 6) = 0
    rw [lettered_txt h]; rfl
  unfold chk; rw [if_neg (by rw [e]; omega), e]
theorem chk_PN {l : Bs} (h : Lettered l) : chk [80, 78] l = if l.count 94 ≤ 4 then 0 else 6 := by
  have hl := lettered_len h
  have hne : ¬ l = [] := fun e => by rw [e] at hl; simp at hl
  have e : chkF [80, 78] l = if l.count 94 ≤ 4 then 0 else 6 := by
    show (if decide (l.count 94 ≤ 4) && txtB l then (0 : Int) else 6) = _
    rw [lettered_txt h, Bool.and_true]
    by_cases hc : l.count 94 ≤ 4 <;> simp [hc]
  unfold chk; rw [if_neg (fun c => hne c.2), e]
/-- The bytes of patterns. -/
def Patterned (p : Bs) : Prop := ∀ c ∈ p, c ∈ alphabet ∨ c = 122 ∨ c = 42 ∨ c = 63 ∨ c = 49
theorem patterned_text {p : Bs} (h : Patterned p) (hl : p.length ≤ 64) : isTextB p = true ∧ isTextB (Lib.toLowerA p) = true := by
  constructor
  · unfold isTextB
    rw [decide_eq_true hl, Bool.true_and, List.all_eq_true]
    exact fun c hc => (alpha_text c (h c hc)).1
  · unfold isTextB Lib.toLowerA
    rw [decide_eq_true (by simpa using hl), Bool.true_and, List.all_eq_true]
    intro c hc
    obtain ⟨d, hd, rfl⟩ := List.mem_map.1 hc
    exact (alpha_text d (h d hd)).2
theorem match_LO {p v : Bs} (hv : Lettered v) (hp : p ≠ []) (ht : isTextB p = true) : matchV [76, 79] p v = glob p v ∧ matchE [76, 79] p v = 0 := by
  have hc := chk_LO hv
  have hi : isPatB [76, 79] p = true := ht
  refine ⟨?_, ?_⟩
  · unfold matchV; rw [if_neg (fun h => h hc), if_neg hp, hi]; rfl
  · unfold matchE; rw [if_neg (fun h => h hc), if_neg hp, hi]; rfl
theorem match_PN {p v : Bs} (hv : Lettered v) (hp : p ≠ []) (ht : isTextB p = true) :
    matchV [80, 78] p v = (decide (v.count 94 ≤ 4) && glob (Lib.toLowerA p) (Lib.toLowerA v)) ∧ matchE [80, 78] p v = if v.count 94 ≤ 4 then 0 else 6 := by
  have hc := chk_PN hv
  have hi : isPatB [80, 78] p = true := ht
  by_cases h4 : v.count 94 ≤ 4
  · rw [if_pos h4] at hc
    refine ⟨?_, ?_⟩
    · unfold matchV; rw [if_neg (fun h => h hc), if_neg hp, hi, decide_eq_true h4]; rfl
    · unfold matchE; rw [if_neg (fun h => h hc), if_neg hp, hi, if_pos h4]; rfl
  · rw [if_neg h4] at hc
    refine ⟨?_, ?_⟩
    · unfold matchV; rw [if_pos (by rw [hc]; omega), decide_eq_false h4]; rfl
    · unfold matchE; rw [if_pos (by rw [hc]; omega), if_neg h4, hc]

theorem made_nonempty {v p : Bs} (hv : Lettered v) (h : Made v p) : p ≠ [] := by
  obtain ⟨V, rfl, _, _⟩ := hv
  intro e
  subst e
  cases V with
  | nil =>
    obtain ⟨q, r, hp, hq, _⟩ := h
    rcases hq with rfl | rfl | rfl | rfl <;> simp at hp
  | cons x V =>
    obtain ⟨q, r, hp, hq, _⟩ := h
    rcases hq with rfl | rfl | rfl | rfl <;> simp at hp
/-- What the four calls of Match answer. -/
theorem wild_facts (v p : Bs) (hv : Lettered v) (hM : Made v p) (hl : p.length ≤ 63) :
    (matchV [76, 79] p v = true ∧ matchE [76, 79] p v = 0) ∧ (matchV [76, 79] (p ++ [49]) v = false ∧ matchE [76, 79] (p ++ [49]) v = 0) ∧
    ((Lib.toLowerA p = p → matchV [76, 79] (Lib.toLowerA p) v = true) ∧ matchE [76, 79] (Lib.toLowerA p) v = 0) ∧
    (matchV [80, 78] (Lib.toLowerA p) v = decide (v.count 94 ≤ 4) ∧ matchE [80, 78] (Lib.toLowerA p) v = if v.count 94 ≤ 4 then 0 else 6) := by
  have hpt : Patterned p := fun c hc => by
    rcases made_mem v p hM c hc with h | h | h
    · simp [h]
    · simp [h]
    · rcases lettered_mem hv c h with h | h <;> simp [h]
  have hpt1 : Patterned (p ++ [49]) := fun c hc => by
    rw [List.mem_append, List.mem_singleton] at hc
    rcases hc with hc | hc
    · exact hpt c hc
    · simp [hc]
  have hne := made_nonempty hv hM
  have hnl : Lib.toLowerA p ≠ [] := fun e => hne (by simpa [Lib.toLowerA] using e)
  have hstar : ∀ c ∈ v, c ≠ 42 := fun c hc => by
    rcases lettered_mem hv c hc with h | h
    · intro e; subst e; revert h; decide
    · rw [h]; decide
  have hg := made_fits v p hstar hM
  have t0 := patterned_text hpt (by omega)
  have t1 := patterned_text hpt1 (by simp; omega)
  refine ⟨?_, ?_, ?_, ?_⟩
  · have := match_LO hv hne t0.1
    exact ⟨by rw [this.1, hg], this.2⟩
  · have := match_LO hv (by simp) t1.1
    refine ⟨?_, this.2⟩
    rw [this.1, Bool.eq_false_iff]
    intro e
    have := glob_last 49 (by decide) (by decide) p v e
    rw [lettered_last hv] at this
    cases this
  · have := match_LO hv hnl t0.2
    exact ⟨fun e => by rw [this.1, e, hg], this.2⟩
  · have := match_PN hv hnl t0.2
    refine ⟨?_, this.2⟩
    rw [this.1, lower_lower]
    have hm : glob (Lib.toLowerA p) (Lib.toLowerA v) = true := glob_map Lib.lowerB (by decide) (by decide) low_42 p v hg
    rw [hm, Bool.and_true]
theorem count_snoc (l : Bs) (c : UInt8) : (l ++ [c]).count 94 = l.count 94 + if (c.toNat : Int) = 94 then 1 else 0 := by
  rw [List.count_append]
  congr 1
  by_cases h : c = 94
  · subst h; rfl
  · have h1 : ¬ (c.toNat : Int) = 94 := fun e => h (UInt8.toNat_inj.1 (by show c.toNat = 94; omega))
    rw [if_neg h1]
    simp [h]
end Go.Proofs.YtaokifbpakbgdaaGreatDoor

/- Patterns with * and ?, told from their ends: of each beginning of the pattern, which beginnings of the text it fits (no program). -/
namespace Go.Proofs.YtaokifbpakbgdaaGreatDoor

theorem glob_snoc (c x : UInt8) (hc : c ≠ 42) : ∀ (P V : Bs), glob (P ++ [c]) (V ++ [x]) = (glob P V && (decide (c = 63) || decide (c = x)))
  | [], [] => by rw [List.nil_append, List.nil_append, glob_cons c x [] [] hc, Bool.and_comm]
  | [], y :: V => by
    rw [List.nil_append, List.cons_append, glob_cons c y [] _ hc]
    have e1 : glob [] (V ++ [x]) = false := by cases V <;> rfl
    have e2 : glob [] (y :: V) = false := rfl
    rw [e1, e2, Bool.and_false, Bool.false_and]
  | d :: P, V => by
    by_cases hd : d = 42
    · subst hd
      rw [List.cons_append, Bool.eq_iff_iff, Bool.and_eq_true, glob_star, glob_star]
      constructor
      · rintro ⟨t, ht, h⟩
        by_cases hl : t ≤ V.length
        · rw [List.drop_append_of_le_length hl, glob_snoc c x hc P, Bool.and_eq_true] at h
          exact ⟨⟨t, hl, h.1⟩, h.2⟩
        · rw [List.drop_eq_nil_of_le (by simp; omega), glob_end] at h
          simp [hc] at h
      · rintro ⟨⟨t, ht, h⟩, hx⟩
        refine ⟨t, by simp; omega, ?_⟩
        rw [List.drop_append_of_le_length ht, glob_snoc c x hc P, h, hx]; rfl
    · cases V with
      | nil =>
        rw [List.cons_append, List.nil_append, glob_cons d x _ _ hd, glob_nil d P hd, glob_end]
        simp [hc]
      | cons y V => rw [List.cons_append, List.cons_append, glob_cons d y _ _ hd, glob_cons d y _ _ hd, glob_snoc c x hc P V, Bool.and_assoc]
theorem glob_snoc_star : ∀ (P V : Bs), glob (P ++ [42]) V = true ↔ ∃ j, j ≤ V.length ∧ glob P (V.take j) = true
  | [], V => by
    rw [List.nil_append, glob_star]
    exact ⟨fun _ => ⟨0, Nat.zero_le _, rfl⟩, fun _ => ⟨V.length, Nat.le_refl _, by rw [List.drop_eq_nil_of_le (Nat.le_refl _)]; rfl⟩⟩
  | d :: P, V => by
    by_cases hd : d = 42
    · subst hd
      rw [List.cons_append, glob_star]
      constructor
      · rintro ⟨t, ht, h⟩
        rw [glob_snoc_star P] at h
        obtain ⟨j, hj, h⟩ := h
        simp only [List.length_drop] at hj
        refine ⟨t + j, by omega, ?_⟩
        rw [glob_star]
        refine ⟨t, by simp; omega, ?_⟩
        rw [List.drop_take, show t + j - t = j by omega]
        exact h
      · rintro ⟨j, hj, h⟩
        rw [glob_star] at h
        obtain ⟨t, ht, h⟩ := h
        simp only [List.length_take] at ht
        refine ⟨t, by omega, ?_⟩
        rw [glob_snoc_star P]
        refine ⟨j - t, by simp; omega, ?_⟩
        rw [List.drop_take] at h
        exact h
    · cases V with
      | nil =>
        rw [List.cons_append, glob_nil d _ hd]
        simp [glob_nil d P hd]
      | cons y V =>
        rw [List.cons_append, glob_cons d y _ _ hd, Bool.and_eq_true, glob_snoc_star P V]
        constructor
        · rintro ⟨h1, j, hj, h2⟩
          refine ⟨j + 1, by simp; omega, ?_⟩
          rw [List.take_succ_cons, glob_cons d y _ _ hd, h1, h2]; rfl
        · rintro ⟨j, hj, h⟩
          cases j with
          | zero => rw [List.take_zero, glob_nil d P hd] at h; cases h
          | succ j =>
            rw [List.take_succ_cons, glob_cons d y _ _ hd, Bool.and_eq_true] at h
            exact ⟨h.1, j, by simp at hj; omega, h.2⟩
/-- Does the pattern fit the first k bytes? -/
def dp (P V : Bs) (k : Nat) : Bool := glob P (V.take k)
theorem dp_nil (V : Bs) (k : Nat) (hk : k ≤ V.length) : dp [] V k = decide (k = 0) := by
  unfold dp
  cases k with
  | zero => rfl
  | succ k =>
    cases V with
    | nil => simp at hk
    | cons y V => rfl
theorem dp_star (P V : Bs) (k : Nat) (hk : k ≤ V.length) : dp (P ++ [42]) V k = (dp P V k || (decide (0 < k) && dp (P ++ [42]) V (k - 1))) := by
  unfold dp
  rw [Bool.eq_iff_iff, glob_snoc_star]
  simp only [Bool.or_eq_true, Bool.and_eq_true, decide_eq_true_eq, glob_snoc_star, List.length_take, List.take_take]
  constructor
  · rintro ⟨j, hj, h⟩
    by_cases e : j = k
    · subst e; left; rwa [Nat.min_self] at h
    · right
      refine ⟨by omega, j, by omega, ?_⟩
      rw [show min j (k - 1) = j by omega]
      rwa [show min j k = j by omega] at h
  · rintro (h | ⟨h0, j, hj, h⟩)
    · exact ⟨k, by omega, by rwa [Nat.min_self]⟩
    · refine ⟨j, by omega, ?_⟩
      rw [show min j k = j by omega]
      rwa [show min j (k - 1) = j by omega] at h
theorem dp_zero (c : UInt8) (hc : c ≠ 42) (P V : Bs) : dp (P ++ [c]) V 0 = false := by
  unfold dp
  rw [List.take_zero, glob_end]
  simp [hc]
theorem dp_succ (c : UInt8) (hc : c ≠ 42) (P V : Bs) (k : Nat) (hk : k < V.length) : dp (P ++ [c]) V (k + 1) = (dp P V k && (decide (c = 63) || decide (c = V[k]))) := by
  unfold dp
  rw [List.take_succ_eq_append_getElem hk, glob_snoc c _ hc]
/-- A letter as a small one, where it is asked. -/
def fl (fold : Bool) (c : UInt8) : UInt8 := if fold then Lib.lowerB c else c
theorem low_63 (c : UInt8) : Lib.lowerB c = 63 ↔ c = 63 := by
  have := of_fin (fun c => decide (Lib.lowerB c = 63) == decide (c = 63)) (by decide +kernel) c
  simpa using this
theorem fl_42 (fold : Bool) (c : UInt8) : fl fold c = 42 ↔ c = 42 := by
  cases fold
  · exact Iff.rfl
  · exact ⟨fun h => low_42 c h, fun h => by rw [h]; rfl⟩
theorem fl_63 (fold : Bool) (c : UInt8) : fl fold c = 63 ↔ c = 63 := by
  cases fold
  · exact Iff.rfl
  · exact low_63 c
theorem low_up' (c : UInt8) (h1 : 65 ≤ c.toNat) (h2 : c.toNat ≤ 90) : UInt8.ofNat (c.toNat + 32) = Lib.lowerB c := by
  have := of_fin (fun c => !(decide (65 ≤ c.toNat) && decide (c.toNat ≤ 90)) || decide (UInt8.ofNat (c.toNat + 32) = Lib.lowerB c)) (by decide +kernel) c
  simpa [h1, h2] using this
theorem low_id' (c : UInt8) (h : ¬ (65 ≤ c.toNat ∧ c.toNat ≤ 90)) : Lib.lowerB c = c := by
  have := of_fin (fun c => (decide (65 ≤ c.toNat) && decide (c.toNat ≤ 90)) || decide (Lib.lowerB c = c)) (by decide +kernel) c
  have h' : (decide (65 ≤ c.toNat) && decide (c.toNat ≤ 90)) = false := by simp; omega
  rw [h', Bool.false_or, decide_eq_true_eq] at this
  exact this
end Go.Proofs.YtaokifbpakbgdaaGreatDoor

/- The document's answer (package folioref), seventh part: wild. -/
namespace Go.Proofs.YtaokifbpakbgdaaGreatDoor
open Go.RowKit

theorem rsmall_any (c : UInt8) (fold : Bool) (w : World) :
    Calls Tryz.prog 148 #[.int .u8 (c.toNat : Int), .bool fold] w fun e w' => e = .returned (.int .u8 ((fl fold c).toNat : Int)) ∧ w' = w := by
  cases fold
  · go_enter Tryz.func148, Tryz.ntmps148
    go_wp2
    go_ret
    exact ⟨rfl, rfl⟩
  · have hb := UInt8.toNat_lt c
    by_cases h1 : 65 ≤ (c.toNat : Int)
    · by_cases h2 : (c.toNat : Int) ≤ 90
      · have e : Hid (((fl true c).toNat : Int) = (c.toNat : Int) + 32) := by
          have := low_up' c (by omega) (by omega)
          unfold Hid fl; rw [if_pos rfl, ← this]; rw [UInt8.toNat_ofNat']; omega
        go_enter Tryz.func148, Tryz.ntmps148
        go_wp2
        go_ret
        exact ⟨vret_int e.out.symm, rfl⟩
      · have e : Hid (((fl true c).toNat : Int) = (c.toNat : Int)) := by
          unfold Hid fl; rw [if_pos rfl, low_id' c (by omega)]
        have d2 : decide ((c.toNat : Int) ≤ 90) = false := decide_eq_false h2
        go_enter Tryz.func148, Tryz.ntmps148
        go_wp2
        go_ret
        exact ⟨vret_int e.out.symm, rfl⟩
    · have e : Hid (((fl true c).toNat : Int) = (c.toNat : Int)) := by
        unfold Hid fl; rw [if_pos rfl, low_id' c (by omega)]
      go_enter Tryz.func148, Tryz.ntmps148
      go_wp2
      go_ret
      exact ⟨vret_int e.out.symm, rfl⟩
theorem info_bool : (Tryz.prog.info? 4).map (fun i => (i.zero, i.size, i.bytes)) = some (some (.bool false), 1, 1) := by kernel_rfl
/-- A row of bools in a block of the call's own. -/
def RowB (w : World) (b n : Nat) (F : Nat → Bool) : Prop := ∀ k, k < n → w.cell? ⟨b, k, none⟩ = some (.bool (F k)) ∧ w.frozen? ⟨b, k, none⟩ = false
theorem RowB.lt {w : World} {b n : Nat} {F : Nat → Bool} (h : RowB w b n F) (hn : 0 < n) : b < w.heap.size := World.block_lt_of_cell? _ _ (h 0 hn).1
theorem RowB.up {w w' : World} {b n : Nat} {F : Nat → Bool} (h : RowB w b n F) (hn : 0 < n) (hu : Up w w') : RowB w' b n F := fun k hk =>
  ⟨hu.cell (h k hk).1, by rw [Below.frozen hu (h.lt hn)]; exact (h k hk).2⟩
theorem RowB.made {w' : World} {base n b : Nat} (h : w'.ownsRow base 4 1 (.slice (some ⟨b, 0, none⟩) n n) n (madeCells #[Value.bool false] n).toList) : RowB w' b n (fun _ => false) := fun k hk => by
  refine ⟨?_, h.frozenAt k⟩
  rw [h.cellAt k (by omega)]
  simp [madeCells, hk, Nat.mod_one]
theorem RowB.set {w : World} {b n : Nat} {F : Nat → Bool} (h : RowB w b n F) {k : Nat} (hk : k < n) (x : Bool) : RowB (w.setCell ⟨b, k, none⟩ (.bool x)) b n (fun j => if j = k then x else F j) := fun j hj => by
  refine ⟨?_, by rw [World.frozen?_setCell]; exact (h j hj).2⟩
  by_cases e : j = k
  · subst e
    simp only [if_true]
    exact World.cell?_setCell_same' _ _ _ (by rw [(h j hj).1]; rfl)
  · simp only [e, if_false]
    rw [World.cell?_setCell_other _ _ _ _ (fun x => e (by cases x; rfl))]
    exact (h j hj).1
theorem RowB.other {w : World} {b n : Nat} {F : Nat → Bool} (h : RowB w b n F) {b' k : Nat} (hb : b ≠ b') (x : Value) : RowB (w.setCell ⟨b', k, none⟩ x) b n F := fun j hj => by
  refine ⟨?_, by rw [World.frozen?_setCell]; exact (h j hj).2⟩
  rw [World.cell?_setCell_other _ _ _ _ (fun x => hb (by cases x; rfl))]
  exact (h j hj).1
theorem RowB.congr {w : World} {b n : Nat} {F G : Nat → Bool} (h : RowB w b n F) (e : ∀ k, k < n → F k = G k) : RowB w b n G := fun k hk => by rw [← e k hk]; exact h k hk
theorem Up.set {a w : World} (h : Up a w) {b k : Nat} (hb : a.heap.size ≤ b) (x : Value) : Up a (w.setCell ⟨b, k, none⟩ x) := Below.setCell h hb x
theorem up_make {w w1 : World} (hg : w.grownBy w1 none) : Up w w1 := Below.grown (Below.refl _ _) hg (Nat.le_refl _) (fun k hk => by cases hk)
set_option maxRecDepth 20000 in
set_option maxHeartbeats 4000000 in
theorem rwild_any (p v : ByteArray) (fold : Bool) (w : World) (hp : p.size < 4294967281) (hv : v.size < 4294967281) :
    Calls Tryz.prog 91 #[.string p, .string v, .bool fold] w fun e w' => e = .returned (.bool (glob (p.data.toList.map (fl fold)) (v.data.toList.map (fl fold)))) ∧ Up w w' := by
  obtain ⟨i0, hi0, hz0, hz1, hz2⟩ := info_parts info_bool
  have HI := hid hi0
  clear hi0
  go_enter Tryz.func91, Tryz.ntmps91
  go_wp2_with (refine wpList_make_full _ rfl _ _ 178 rfl w.heap.size 4 i0 (.bool false) 1 Tryz.underlying178 HI.out hz0 hz1 .i64 .i64 _ _ (v.size + 1) rfl rfl (by simp) (by simp) (by rw [hz2]; omega) (by unfold maxLen; omega) (Nat.le_refl _) ?_)
  intro w1 hown hg
  have R1 := hid (RowB.made hown)
  have U1 := hid (up_make hg)
  clear hown hg
  have c0 := (R1.out 0 (by omega)).1
  have f0 := (R1.out 0 (by omega)).2
  go_wp2_with fail
  go_loopw [7, 8] (fun x y wr => ∃ (i b : Nat), x = .slice (some ⟨b, 0, none⟩) (v.size + 1) (v.size + 1) ∧ y = .int .i64 i ∧ i ≤ p.size ∧ w.heap.size ≤ b ∧ Hid (RowB wr b (v.size + 1) (dp ((p.data.toList.take i).map (fl fold)) (v.data.toList.map (fl fold)))) ∧ Hid (Up w wr)) (fun _ y _ => p.size - (intOf y).toNat)
  case atStart =>
    refine ⟨0, w.heap.size, rfl, rfl, by omega, Nat.le_refl _, ?_, Up.set U1.out (Nat.le_refl _) _⟩
    refine (RowB.set R1.out (by omega : 0 < v.size + 1) true).congr (fun k hk => ?_)
    rw [List.take_zero, List.map_nil, dp_nil _ _ (by simp; omega)]
    by_cases e : k = 0 <;> simp [e]
  case round =>
    obtain ⟨i, b, rfl, rfl, hi, hb, hR, hU⟩ := hrel
    by_cases hlt : i < p.size
    · go_wp2_with (refine wpList_make_full _ rfl _ _ 178 rfl wr.heap.size 4 i0 (.bool false) 1 Tryz.underlying178 HI.out hz0 hz1 .i64 .i64 _ _ (v.size + 1) rfl rfl (by simp) (by simp) (by rw [hz2]; omega) (by unfold maxLen; omega) (Nat.le_refl _) ?_)
      intro w2 hown hg
      have R2 := hid (RowB.made hown)
      have U2 := hid (up_make hg)
      clear hown hg
      have hbne : Hid (b ≠ wr.heap.size) := by have := hR.out.lt (by omega); unfold Hid; omega
      have RF := hid (hR.out.up (by omega) U2.out)
      have hts : Hid ((p.data.toList.take (i + 1)).map (fl fold) = (p.data.toList.take i).map (fl fold) ++ [fl fold p[i]]) := by
        unfold Hid; rw [take_snoc p i hlt, List.map_append]; rfl
      have hlen : Hid ((v.data.toList.map (fl fold)).length = v.size) := by unfold Hid; simp
      have hstar : Hid (p[i] = 42 → ∀ k, k ≤ v.size → dp ((p.data.toList.take (i + 1)).map (fl fold)) (v.data.toList.map (fl fold)) k = (dp ((p.data.toList.take i).map (fl fold)) (v.data.toList.map (fl fold)) k || (decide (0 < k) && dp ((p.data.toList.take (i + 1)).map (fl fold)) (v.data.toList.map (fl fold)) (k - 1)))) := fun h k hk => by
        rw [hts.out, (fl_42 fold p[i]).2 h]
        exact dp_star _ _ k (by rw [hlen.out]; exact hk)
      have hzero : Hid (p[i] ≠ 42 → dp ((p.data.toList.take (i + 1)).map (fl fold)) (v.data.toList.map (fl fold)) 0 = false) := fun h => by
        rw [hts.out]
        exact dp_zero _ (fun e => h ((fl_42 fold _).1 e)) _ _
      have hsucc : Hid (p[i] ≠ 42 → ∀ k (hk : k < v.size), dp ((p.data.toList.take (i + 1)).map (fl fold)) (v.data.toList.map (fl fold)) (k + 1) = (dp ((p.data.toList.take i).map (fl fold)) (v.data.toList.map (fl fold)) k && (decide (p[i] = 63) || decide (fl fold p[i] = fl fold v[k])))) := fun h k hk => by
        rw [hts.out, dp_succ _ (fun e => h ((fl_42 fold _).1 e)) _ _ k (by rw [hlen.out]; exact hk)]
        congr 2
        · exact decide_eq_decide.2 (fl_63 fold _)
        · rw [List.getElem_map]; rfl
      clear hts hlen
      generalize hGdef : dp ((p.data.toList.take (i + 1)).map (fl fold)) (v.data.toList.map (fl fold)) = G at hstar hzero hsucc
      have HG := hid hGdef
      clear hGdef
      generalize hFdef : dp ((p.data.toList.take i).map (fl fold)) (v.data.toList.map (fl fold)) = F at hstar hsucc RF
      have U3 := hid (hU.out.trans U2.out)
      have hNb := hU.out.size
      clear hFdef hR hU U2
      generalize wr.heap.size = N at R2 hbne hNb
      go_wp2_with fail
      go_loopw [10] (fun z ws => ∃ k : Nat, z = .int .i64 k ∧ k ≤ v.size + 1 ∧ Hid (RowB ws b (v.size + 1) F) ∧ Hid (RowB ws N (v.size + 1) (fun j => decide (j < k) && G j)) ∧ Hid (Up w ws)) (fun z _ => v.size + 1 - (intOf z).toNat)
      case atStart => exact ⟨0, rfl, by omega, RF, R2, U3⟩
      case round =>
        obtain ⟨k, rfl, hk, hRF, hRN, hU4⟩ := hrel
        clear RF R2 U3
        by_cases hkv : k ≤ v.size
        · have hcell := (hRF.out k (by omega)).1
          have hN1 : wr.cell? ⟨N, k, none⟩ = some (.bool false) := by simpa using (hRN.out k (by omega)).1
          have hN2 := (hRN.out k (by omega)).2
          have hNk : Hid (∀ x, G k = x → RowB (wr.setCell ⟨N, k, none⟩ (.bool x)) N (v.size + 1) (fun j => decide (j < k + 1) && G j)) := fun x hx => by
            refine (hRN.out.set (by omega : k < v.size + 1) x).congr (fun j hj => ?_)
            by_cases e : j = k
            · subst e; simp [hx]
            · have : decide (j < k) = decide (j < k + 1) := decide_eq_decide.2 (by omega)
              simp [e, this]
          have hNo : Hid (G k = false → RowB wr N (v.size + 1) (fun j => decide (j < k + 1) && G j)) := fun hx => by
            refine hRN.out.congr (fun j hj => ?_)
            by_cases e : j = k
            · subst e; simp [hx]
            · have : decide (j < k) = decide (j < k + 1) := decide_eq_decide.2 (by omega)
              simp [this]
          by_cases h42 : (p[i].toNat : Int) = 42
          · have hS := hid (hstar.out ((byte_eq 42).2 h42) k hkv)
            cases hFk : F k
            · rw [hFk] at hcell
              by_cases hk0 : 0 < k
              · have hprev : wr.cell? ⟨N, k - 1, none⟩ = some (.bool (G (k - 1))) := by
                  have := (hRN.out (k - 1) (by omega)).1
                  simpa [show k - 1 < k by omega] using this
                have hx : Hid (G k = G (k - 1)) := by unfold Hid; rw [hS.out, hFk, decide_eq_true hk0]; rfl
                have hk0' : decide (0 < (k : Int)) = true := by simp; omega
                go_wp2
                go_roundw
                case rel => exact ⟨k + 1, by go_num, by omega, hRF.out.other hbne.out _, hNk.out _ hx.out, Up.set hU4.out hNb _⟩
                case measure => simp [intOf]; omega
              · obtain rfl : k = 0 := by omega
                have hx : Hid (G 0 = false) := by unfold Hid; rw [hS.out, hFk]; rfl
                go_wp2
                go_roundw
                case rel => exact ⟨1, by go_num, by omega, hRF.out.other hbne.out _, hNk.out _ hx.out, Up.set hU4.out hNb _⟩
                case measure => simp [intOf]
            · rw [hFk] at hcell
              have hx : Hid (G k = true) := by unfold Hid; rw [hS.out, hFk]; rfl
              go_wp2
              go_roundw
              case rel => exact ⟨k + 1, by go_num, by omega, hRF.out.other hbne.out _, hNk.out _ hx.out, Up.set hU4.out hNb _⟩
              case measure => simp [intOf]; omega
          · have n42 : p[i] ≠ 42 := fun e => h42 ((byte_eq 42).1 e)
            have d42 : ((p[i].toNat : Int) == 42) = false := by simpa using h42
            by_cases hk0 : 0 < k
            · obtain ⟨k', rfl⟩ : ∃ k', k = k' + 1 := ⟨k - 1, by omega⟩
              have hS := hid (hsucc.out n42 k' (by omega))
              have hpf := (hRF.out k' (by omega)).1
              have hk0' : decide (0 < ((k' : Int) + 1)) = true := decide_eq_true (by omega)
              cases hFk : F k'
              · rw [hFk] at hpf
                have hx : Hid (G (k' + 1) = false) := by unfold Hid; rw [hS.out, hFk]; rfl
                go_wp2
                go_roundw
                case rel => exact ⟨k' + 1 + 1, by go_num, by omega, hRF, hNo.out hx.out, hU4⟩
                case measure => simp [intOf]; omega
              · rw [hFk] at hpf
                by_cases h63 : (p[i].toNat : Int) = 63
                · have hx : Hid (G (k' + 1) = true) := by unfold Hid; rw [hS.out, hFk, decide_eq_true ((byte_eq 63).2 h63)]; rfl
                  have d63 : ((p[i].toNat : Int) == 63) = true := by simpa using h63
                  clear h63
                  go_wp2_with (go_at_call 148; refine (rsmall_any _ _ _).mono ?_; rintro e w' ⟨rfl, rfl⟩)
                  go_roundw
                  case rel => exact ⟨k' + 1 + 1, by go_num, by omega, hRF.out.other hbne.out _, hNk.out _ hx.out, Up.set hU4.out hNb _⟩
                  case measure => simp [intOf]; omega
                · have d63 : ((p[i].toNat : Int) == 63) = false := by simpa using h63
                  have hx : Hid (G (k' + 1) = (((fl fold p[i]).toNat : Int) == ((fl fold v[k']).toNat : Int))) := by
                    unfold Hid
                    rw [hS.out, hFk, decide_eq_false (fun e => h63 ((byte_eq 63).1 e)), Bool.true_and, Bool.false_or, Bool.eq_iff_iff, decide_eq_true_eq, byte_eq, beq_iff_eq]
                  go_wp2_with (go_at_call 148; refine (rsmall_any _ _ _).mono ?_; rintro e w' ⟨rfl, rfl⟩)
                  go_roundw
                  case rel => exact ⟨k' + 1 + 1, by go_num, by omega, hRF.out.other hbne.out _, hNk.out _ hx.out, Up.set hU4.out hNb _⟩
                  case measure => simp [intOf]; omega
            · obtain rfl : k = 0 := by omega
              have hx := hid (hzero.out n42)
              go_wp2
              go_roundw
              case rel => exact ⟨1, by go_num, by omega, hRF, hNo.out hx.out, hU4⟩
              case measure => simp [intOf]
        · have hGrow : Hid (RowB wr N (v.size + 1) G) := hRN.out.congr (fun j hj => by rw [decide_eq_true (by omega), Bool.true_and])
          go_wp2
          go_roundw
          case rel => exact ⟨i + 1, N, rfl, by go_num, by omega, by omega, by rw [HG.out]; exact hGrow, hU4⟩
          case measure => simp [intOf]; omega
    · have c0 := (hR.out v.size (by omega)).1
      go_wp2
      go_ret
      refine ⟨vret_bool ?_, hU.out⟩
      rw [show List.take i (List.map (fl fold) p.data.toList) = List.map (fl fold) p.data.toList from List.take_of_length_le (by simp; omega)]
      unfold dp
      rw [List.take_of_length_le (by simp)]
end Go.Proofs.YtaokifbpakbgdaaGreatDoor

/- Ranges of dates and times: parted at each - or cut at the first, by bytes or by numbers: the same (no program). -/
namespace Go.Proofs.YtaokifbpakbgdaaGreatDoor

theorem spl_one {c : UInt8} {l a : Bs} (h : spl c l = [a]) : l = a ∧ c ∉ l := by
  rcases index_one c l with ⟨_, h2⟩ | ⟨i, _, _, h3, h4⟩
  · rw [spl_none c l h2] at h
    exact ⟨by simpa using h, h2⟩
  · rw [h3, spl_hit c _ _ h4] at h
    have hne := spl_ne c (l.drop (i + 1))
    simp at h
    exact absurd h.2 hne
theorem spl_two {c : UInt8} {l a b : Bs} (h : spl c l = [a, b]) : l = a ++ c :: b ∧ c ∉ a ∧ c ∉ b := by
  rcases index_one c l with ⟨_, h2⟩ | ⟨i, _, _, h3, h4⟩
  · rw [spl_none c l h2] at h; simp at h
  · have h' := h
    rw [h3, spl_hit c _ _ h4] at h'
    simp only [List.cons.injEq] at h'
    obtain ⟨e1, e2⟩ := h'
    obtain ⟨e3, e4⟩ := spl_one e2
    refine ⟨by rw [← e1, ← e3]; exact h3, by rw [← e1]; exact h4, by rw [← e3]; exact e4⟩
theorem spl_many {c : UInt8} {l : Bs} (h1 : (spl c l).length ≠ 1) (h2 : (spl c l).length ≠ 2) : ∃ a b, l = a ++ c :: b ∧ c ∉ a ∧ c ∈ b := by
  rcases index_one c l with ⟨_, k2⟩ | ⟨i, _, _, h3, h4⟩
  · rw [spl_none c l k2] at h1; simp at h1
  · refine ⟨_, _, h3, h4, ?_⟩
    by_cases hb : c ∈ l.drop (i + 1)
    · exact hb
    · exfalso
      rw [h3, spl_hit c _ _ h4, spl_none c _ hb] at h2
      simp at h2
def DT (k : Bs) : Prop := k = [68, 65] ∨ k = [84, 77]
theorem DT.kind {k : Bs} (h : DT k) : IsKind k := by rcases h with rfl | rfl <;> simp [IsKind]
theorem rval_digits {k l : Bs} (hk : DT k) (h : rval k l = true) : digitsB l = true := by
  rcases hk with rfl | rfl
  · have h' : dateB l = true := h
    unfold dateB at h'
    simp only [Bool.and_eq_true] at h'
    exact h'.1.1.2
  · have h' : timeB l = true := h
    unfold timeB at h'
    simp only [Bool.and_eq_true] at h'
    exact h'.1.1.1.2
theorem chkF_rval {k l : Bs} (hk : DT k) : chkF k l = 0 ↔ rval k l = true := by
  rw [rval_chk k l hk.kind]
  cases rval k l <;> simp
theorem chk_rval {k l : Bs} (hk : DT k) : chk k l = 0 ↔ (l = [] ∨ rval k l = true) := by
  unfold chk
  by_cases e : l = []
  · subst e
    have : chkF k [] = 6 := by rcases hk with rfl | rfl <;> decide
    rw [if_pos ⟨this, rfl⟩]; simp
  · rw [if_neg (fun c => e c.2), chkF_rval hk]; simp [e]
theorem pat_no {k p : Bs} (hk : DT k) (hs : rval k p = false) (hl : (spl 45 p).length ≠ 2) : isPatB k p = false := by
  rw [pat_span k p hk]
  by_cases h1 : (spl 45 p).length = 1
  · obtain ⟨a, ha⟩ := List.length_eq_one_iff.1 h1
    obtain ⟨rfl, hn⟩ := spl_one ha
    unfold spanB
    rw [cut_miss _ hn]
    have : ¬ chkF k p = 0 := fun h => by rw [(chkF_rval hk).1 h] at hs; cases hs
    simp [this]
  · obtain ⟨a, b, rfl, ha, hb⟩ := spl_many h1 hl
    unfold spanB
    rw [cut_hit a b ha]
    have : ¬ chk k b = 0 := fun h => by
      rcases (chk_rval hk).1 h with h | h
      · subst h; simp at hb
      · exact no_dash b (rval_digits hk h) hb
    simp [this]
theorem pat_two {k p a b : Bs} (hk : DT k) (h : spl 45 p = [a, b]) : isPatB k p = (!(decide (a = []) && decide (b = [])) && (decide (a = []) || rval k a) && (decide (b = []) || rval k b)) := by
  obtain ⟨rfl, ha, hb⟩ := spl_two h
  rw [pat_span k _ hk]
  unfold spanB
  rw [cut_hit a b ha]
  have e1 : decide (a ++ 45 :: b = [45]) = (decide (a = []) && decide (b = [])) := by
    cases a <;> cases b <;> simp
  have e2 : ∀ l, decide (chk k l = 0) = (decide (l = []) || rval k l) := fun l => by
    rw [Bool.eq_iff_iff]; simp [chk_rval hk]
  simp only [if_true, e1, e2]
theorem fits_two_date {p a b v : Bs} (h : spl 45 p = [a, b]) (hv : v ≠ []) : fitsB [68, 65] p v = withinB a b v := by
  obtain ⟨rfl, ha, _⟩ := spl_two h
  rw [fits_date _ _ hv]
  unfold fitsDateB
  rw [cut_hit a b ha]; rfl
theorem fits_two_time {p a b v : Bs} (h : spl 45 p = [a, b]) (hv : v ≠ []) : fitsB [84, 77] p v = withinB (filledB a [48, 48]) (filledB b [53, 57]) (filledB v [48, 48]) := by
  obtain ⟨rfl, ha, _⟩ := spl_two h
  rw [fits_time _ _ hv]
  unfold fitsTimeB
  rw [cut_hit a b ha]; rfl
theorem fits_empty {k p : Bs} (hk : DT k) : fitsB k p [] = false := by
  rcases hk with rfl | rfl <;> rfl
/- Dates by their numbers. -/
theorem date_rdig {l : Bs} (h : dateB l = true) : l.length = 8 ∧ digitsB l = true ∧ rdig l = num l := by
  unfold dateB at h
  simp only [Bool.and_eq_true, decide_eq_true_eq] at h
  refine ⟨h.1.1.1, h.1.1.2, ?_⟩
  unfold rdig
  rw [if_pos ⟨by omega, by omega, h.1.1.2⟩]
theorem le_date {a b : Bs} (ha : dateB a = true) (hb : dateB b = true) : leB a b = decide (rdig a ≤ rdig b) := by
  obtain ⟨l1, d1, r1⟩ := date_rdig ha
  obtain ⟨l2, d2, r2⟩ := date_rdig hb
  rw [leB_num a b (by omega) d1 d2, r1, r2]
/- Times by their seconds. -/
def secP (l : Bs) (j : Nat) (f : Int) : Int := if j < l.length then num ((l.drop j).take 2) else f
def sq (l : Bs) (f : Int) : Nat → Int
  | 0 => 0
  | m + 1 => sq l f m * 60 + secP l (2 * m) f
theorem time_facts {l : Bs} (h : timeB l = true) : (l.length = 2 ∨ l.length = 4 ∨ l.length = 6) ∧ digitsB l = true ∧ num (l.take 2) ≤ 23 ∧ num ((l.drop 2).take 2) ≤ 59 ∧ num ((l.drop 4).take 2) ≤ 59 := by
  unfold timeB at h
  simp only [Bool.and_eq_true, Bool.or_eq_true, decide_eq_true_eq] at h
  exact ⟨by omega, h.1.1.1.2, h.1.1.2, h.1.2, h.2⟩
theorem fill_parts {l m : Bs} {f : Int} (h : timeB l = true) (hm : m.length = 2) (hd : digitsB m = true) (hf : num m = f) (h0 : 0 ≤ f) (h59 : f ≤ 59) :
    ∃ a b c : Nat, sq l f 3 = 3600 * a + 60 * b + c ∧ num (filledB l m) = 10000 * a + 100 * b + c ∧ b < 60 ∧ c < 60 ∧ (filledB l m).length = 6 ∧ digitsB (filledB l m) = true := by
  obtain ⟨hl, hdg, h1, h2, h3⟩ := time_facts h
  have b0 := num_bd _ (digits_take l 2 hdg)
  have b2 := num_bd _ (digits_take _ 2 (digits_drop l 2 hdg))
  have b4 := num_bd _ (digits_take _ 2 (digits_drop l 4 hdg))
  have hsq : sq l f 3 = (secP l 0 f * 60 + secP l 2 f) * 60 + secP l 4 f := by simp [sq]
  have p0 : secP l 0 f = num (l.take 2) := by unfold secP; rw [if_pos (by omega), List.drop_zero]
  have e : l = l.take 2 ++ ((l.drop 2).take 2 ++ (l.drop 4).take 2) := by
    conv => lhs; rw [← List.take_append_drop 2 l, ← List.take_append_drop 2 (l.drop 2), List.drop_drop]
    congr 2
    rw [List.take_of_length_le (by simp; omega)]
  have t2 : (l.take 2).length = 2 := by simp; omega
  rcases hl with hl | hl | hl
  · have q2 : secP l 2 f = f := by unfold secP; rw [if_neg (by omega)]
    have q4 : secP l 4 f = f := by unfold secP; rw [if_neg (by omega)]
    have hfl : filledB l m = l ++ m ++ m := by
      unfold filledB
      rw [fill_go m 5 l ⟨fun x => by rw [x] at hl; simp at hl, by omega⟩, fill_go m 4 _ ⟨by simp; intro x; rw [x] at hl; simp at hl, by simp; omega⟩, fill_stop m 4 _ (by simp; omega)]
    have e2 : l.take 2 = l := List.take_of_length_le (by omega)
    refine ⟨(num (l.take 2)).toNat, f.toNat, f.toNat, ?_, ?_, by omega, by omega, ?_, ?_⟩
    · rw [hsq, p0, q2, q4]; omega
    · rw [hfl, num_append, num_append, hm, hf, e2]; rw [e2] at b0; omega
    · rw [hfl]; simp [hl, hm]
    · rw [hfl, digitsB_append, digitsB_append]; exact ⟨⟨hdg, hd⟩, hd⟩
  · have q2 : secP l 2 f = num ((l.drop 2).take 2) := by unfold secP; rw [if_pos (by omega)]
    have q4 : secP l 4 f = f := by unfold secP; rw [if_neg (by omega)]
    have hfl : filledB l m = l ++ m := by
      unfold filledB
      rw [fill_go m 5 l ⟨fun x => by rw [x] at hl; simp at hl, by omega⟩, fill_stop m 5 _ (by simp; omega)]
    have e3 : (l.drop 4).take 2 = [] := by rw [List.drop_eq_nil_of_le (by omega)]; rfl
    rw [e3, List.append_nil] at e
    have l3 : ((l.drop 2).take 2).length = 2 := by simp; omega
    refine ⟨(num (l.take 2)).toNat, (num ((l.drop 2).take 2)).toNat, f.toNat, ?_, ?_, by omega, by omega, ?_, ?_⟩
    · rw [hsq, p0, q2, q4]; omega
    · rw [hfl, num_append, hm, hf]
      have : num l = num (l.take 2) * 10 ^ 2 + num ((l.drop 2).take 2) := by
        conv => lhs; rw [e]
        rw [num_append, l3]
      rw [this]; omega
    · rw [hfl]; simp [hl, hm]
    · rw [hfl, digitsB_append]; exact ⟨hdg, hd⟩
  · have q2 : secP l 2 f = num ((l.drop 2).take 2) := by unfold secP; rw [if_pos (by omega)]
    have q4 : secP l 4 f = num ((l.drop 4).take 2) := by unfold secP; rw [if_pos (by omega)]
    have hfl : filledB l m = l := filled6 l m hl
    have l3 : ((l.drop 2).take 2).length = 2 := by simp; omega
    have l4 : ((l.drop 4).take 2).length = 2 := by simp; omega
    refine ⟨(num (l.take 2)).toNat, (num ((l.drop 2).take 2)).toNat, (num ((l.drop 4).take 2)).toNat, ?_, ?_, by omega, by omega, ?_, ?_⟩
    · rw [hsq, p0, q2, q4]; omega
    · rw [hfl]
      have : num l = num (l.take 2) * 10 ^ 4 + (num ((l.drop 2).take 2) * 10 ^ 2 + num ((l.drop 4).take 2)) := by
        conv => lhs; rw [e]
        rw [num_append, num_append, List.length_append, l3, l4]
      rw [this]; omega
    · rw [hfl]; exact hl
    · rw [hfl]; exact hdg
theorem lex_sec' (h m s h' m' s' : Nat) (h1 : m < 60) (h2 : s < 60) (k1 : m' < 60) (k2 : s' < 60) :
    (10000 * h + 100 * m + s : Int) ≤ 10000 * h' + 100 * m' + s' ↔ (3600 * h + 60 * m + s : Int) ≤ 3600 * h' + 60 * m' + s' := by
  rcases Nat.lt_trichotomy h h' with a | a | a <;> rcases Nat.lt_trichotomy m m' with b | b | b <;> omega
theorem le_time {a b m m' : Bs} {f f' : Int} (ha : timeB a = true) (hb : timeB b = true) (hm : m.length = 2) (hd : digitsB m = true) (hf : num m = f) (h0 : 0 ≤ f) (h59 : f ≤ 59)
    (hm' : m'.length = 2) (hd' : digitsB m' = true) (hf' : num m' = f') (h0' : 0 ≤ f') (h59' : f' ≤ 59) : leB (filledB a m) (filledB b m') = decide (sq a f 3 ≤ sq b f' 3) := by
  obtain ⟨x, y, z, e1, e2, e3, e4, e5, e6⟩ := fill_parts ha hm hd hf h0 h59
  obtain ⟨x', y', z', g1, g2, g3, g4, g5, g6⟩ := fill_parts hb hm' hd' hf' h0' h59'
  rw [leB_num _ _ (by omega) e6 g6, e1, e2, g1, g2]
  exact decide_eq_decide.2 (lex_sec' _ _ _ _ _ _ e3 e4 g3 g4)
theorem filled_ne {l m : Bs} {f : Int} (h : timeB l = true) (hm : m.length = 2) (hd : digitsB m = true) (hf : num m = f) (h0 : 0 ≤ f) (h59 : f ≤ 59) : filledB l m ≠ [] := fun e => by
  obtain ⟨_, _, _, _, _, _, _, e5, _⟩ := fill_parts h hm hd hf h0 h59
  rw [e] at e5; simp at e5
end Go.Proofs.YtaokifbpakbgdaaGreatDoor
