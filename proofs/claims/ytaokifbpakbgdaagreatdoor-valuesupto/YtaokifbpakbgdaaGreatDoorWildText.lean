/-
  A pattern made of a text fits it, and not with a byte more behind it (no program).
-/
import Derived.Test.YtaokifbpakbgdaaGreatDoorGlob
namespace Go.Proofs.YtaokifbpakbgdaaGreatDoor
open Go.RowKit

def alphabet : Bs := [97, 98, 99, 65, 66, 67, 32, 120, 94, 49]
/-- Letters, and a z at the end. -/
def Lettered (l : Bs) : Prop := ∃ V : Bs, l = V ++ [122] ∧ V.length ≤ 40 ∧ ∀ c ∈ V, c ∈ alphabet
/-- The pattern p is made of the text, byte by byte. -/
def Made : Bs → Bs → Prop
  | [], p => p = []
  | x :: v, p => ∃ q r, p = q ++ r ∧ (q = [42] ∨ q = [63] ∨ q = [x] ∨ q = [42, x]) ∧ Made v r
theorem made_snoc (x : UInt8) (q : Bs) (hq : q = [42] ∨ q = [63] ∨ q = [x] ∨ q = [42, x]) : ∀ (v p : Bs), Made v p → Made (v ++ [x]) (p ++ q)
  | [], p, h => by
    have h' : p = [] := h
    subst h'
    exact ⟨q, [], by simp, hq, rfl⟩
  | y :: v, p, h => by
    obtain ⟨q', r, rfl, hq', hr⟩ := h
    exact ⟨q', r ++ q, by simp, hq', made_snoc x q hq v r hr⟩
theorem made_fits : ∀ (v p : Bs), (∀ c ∈ v, c ≠ 42) → Made v p → glob p v = true
  | [], p, _, h => by
    have h' : p = [] := h
    subst h'; rfl
  | x :: v, p, hn, h => by
    obtain ⟨q, r, rfl, hq, hr⟩ := h
    have ih := made_fits v r (fun c hc => hn c (by simp [hc])) hr
    have hx : x ≠ 42 := hn x (by simp)
    rcases hq with rfl | rfl | rfl | rfl
    · rw [List.singleton_append, glob_star]; exact ⟨1, by simp, by simpa using ih⟩
    · rw [List.singleton_append, glob_cons _ _ _ _ (by decide)]; simp [ih]
    · rw [List.singleton_append, glob_cons _ _ _ _ hx]; simp [ih]
    · rw [show ([42, x] ++ r : Bs) = 42 :: (x :: r) from rfl, glob_star]
      refine ⟨0, Nat.zero_le _, ?_⟩
      rw [List.drop_zero, glob_cons _ _ _ _ hx]; simp [ih]
theorem made_mem : ∀ (v p : Bs), Made v p → ∀ c ∈ p, c = 42 ∨ c = 63 ∨ c ∈ v
  | [], p, h, c, hc => by
    have h' : p = [] := h
    subst h'; simp at hc
  | x :: v, p, h, c, hc => by
    obtain ⟨q, r, rfl, hq, hr⟩ := h
    rw [List.mem_append] at hc
    rcases hc with hc | hc
    · rcases hq with rfl | rfl | rfl | rfl
      · exact Or.inl (by simpa using hc)
      · exact Or.inr (Or.inl (by simpa using hc))
      · exact Or.inr (Or.inr (by simp at hc; simp [hc]))
      · simp at hc
        rcases hc with rfl | rfl
        · exact Or.inl rfl
        · exact Or.inr (Or.inr (by simp))
    · rcases made_mem v r hr c hc with h | h | h
      · exact Or.inl h
      · exact Or.inr (Or.inl h)
      · exact Or.inr (Or.inr (by simp [h]))
/-- What ends with a byte that is neither fits nothing that ends otherwise. -/
theorem glob_last (c : UInt8) (h1 : c ≠ 42) (h2 : c ≠ 63) : ∀ (p v : Bs), glob (p ++ [c]) v = true → v.getLast? = some c
  | [], v, h => by
    cases v with
    | nil => rw [List.nil_append, glob_nil c [] h1] at h; cases h
    | cons x v =>
      rw [List.nil_append, glob_cons c x [] v h1] at h
      simp only [Bool.and_eq_true, Bool.or_eq_true, decide_eq_true_eq, h2, false_or] at h
      obtain ⟨rfl, h⟩ := h
      have : v = [] := by cases v with | nil => rfl | cons y v => cases h
      rw [this]; rfl
  | d :: p, v, h => by
    by_cases hd : d = 42
    · subst hd
      rw [List.cons_append, glob_star] at h
      obtain ⟨t, _, h⟩ := h
      have := glob_last c h1 h2 p _ h
      obtain ⟨ys, hys⟩ := List.getLast?_eq_some_iff.1 this
      rw [List.getLast?_eq_some_iff]
      exact ⟨v.take t ++ ys, by rw [List.append_assoc, ← hys, List.take_append_drop]⟩
    · cases v with
      | nil => rw [List.cons_append, glob_nil d _ hd] at h; cases h
      | cons x v =>
        rw [List.cons_append, glob_cons d x _ v hd, Bool.and_eq_true] at h
        obtain ⟨ys, hys⟩ := List.getLast?_eq_some_iff.1 (glob_last c h1 h2 p v h.2)
        rw [List.getLast?_eq_some_iff]
        exact ⟨x :: ys, by rw [hys]; rfl⟩
theorem glob_map (f : UInt8 → UInt8) (h42 : f 42 = 42) (h63 : f 63 = 63) (hf : ∀ c, f c = 42 → c = 42) : ∀ (p v : Bs), glob p v = true → glob (p.map f) (v.map f) = true
  | [], v, h => by
    cases v with
    | nil => rfl
    | cons x v => cases h
  | c :: p, v, h => by
    by_cases hc : c = 42
    · subst hc
      rw [glob_star] at h
      obtain ⟨t, ht, h⟩ := h
      rw [List.map_cons, h42, glob_star]
      exact ⟨t, by simpa using ht, by rw [← List.map_drop]; exact glob_map f h42 h63 hf p _ h⟩
    · cases v with
      | nil => rw [glob_nil c p hc] at h; cases h
      | cons x v =>
        rw [glob_cons c x p v hc] at h
        simp only [Bool.and_eq_true, Bool.or_eq_true, decide_eq_true_eq] at h
        rw [List.map_cons, List.map_cons, glob_cons _ _ _ _ (fun e => hc (hf c e))]
        simp only [Bool.and_eq_true, Bool.or_eq_true, decide_eq_true_eq]
        refine ⟨?_, glob_map f h42 h63 hf p v h.2⟩
        rcases h.1 with rfl | rfl
        · exact Or.inl h63
        · exact Or.inr rfl
theorem of_fin (p : UInt8 → Bool) (h : ∀ n : Fin 256, p (UInt8.ofNat n.val) = true) (c : UInt8) : p c = true := by
  have := h ⟨c.toNat, UInt8.toNat_lt c⟩
  simpa using this
theorem low_42 (c : UInt8) (h : Lib.lowerB c = 42) : c = 42 := by
  have := of_fin (fun c => !decide (Lib.lowerB c = 42) || decide (c = 42)) (by decide +kernel) c
  simpa [h] using this
theorem low_low (c : UInt8) : Lib.lowerB (Lib.lowerB c) = Lib.lowerB c := by
  have := of_fin (fun c => decide (Lib.lowerB (Lib.lowerB c) = Lib.lowerB c)) (by decide +kernel) c
  simpa using this
theorem lower_lower (l : Bs) : Lib.toLowerA (Lib.toLowerA l) = Lib.toLowerA l := by
  unfold Lib.toLowerA; rw [List.map_map]; congr 1; funext c; exact low_low c
/- What Match answers of a pattern that is made of letters. -/
theorem alpha_text (c : UInt8) (h : c ∈ alphabet ∨ c = 122 ∨ c = 42 ∨ c = 63 ∨ c = 49) : textC c = true ∧ textC (Lib.lowerB c) = true := by
  have := of_fin (fun c => !decide (c ∈ alphabet ∨ c = 122 ∨ c = 42 ∨ c = 63 ∨ c = 49) || (textC c && textC (Lib.lowerB c))) (by decide +kernel) c
  simpa [h] using this
theorem lettered_mem {l : Bs} (h : Lettered l) : ∀ c ∈ l, c ∈ alphabet ∨ c = 122 := by
  obtain ⟨V, rfl, _, hV⟩ := h
  intro c hc
  rw [List.mem_append] at hc
  rcases hc with hc | hc
  · exact Or.inl (hV c hc)
  · exact Or.inr (by simpa using hc)
theorem lettered_len {l : Bs} (h : Lettered l) : 1 ≤ l.length ∧ l.length ≤ 41 := by
  obtain ⟨V, rfl, hl, _⟩ := h
  simp; omega
theorem lettered_last {l : Bs} (h : Lettered l) : l.getLast? = some 122 := by
  obtain ⟨V, rfl, _, _⟩ := h; simp
theorem lettered_txt {l : Bs} (h : Lettered l) : txtB l = true := by
  have hl := lettered_len h
  have hne : ¬ l = [] := fun e => by rw [e] at hl; simp at hl
  have ht : isTextB l = true := by
    unfold isTextB
    rw [decide_eq_true (by omega), Bool.true_and, List.all_eq_true]
    intro c hc
    exact (alpha_text c (by rcases lettered_mem h c hc with h | h <;> simp [h])).1
  unfold txtB
  rw [ht, lettered_last h]
  simp [hne]
theorem chk_LO {l : Bs} (h : Lettered l) : chk [76, 79] l = 0 := by
  have e : chkF [76, 79] l = 0 := by
    show (if txtB l then (0 : Int) else 6) = 0
    rw [lettered_txt h]; rfl
  unfold chk; rw [if_neg (by rw [e]; omega), e]
theorem chk_PN {l : Bs} (h : Lettered l) : chk [80, 78] l = if l.count 94 ≤ 4 then 0 else 6 := by
  have hl := lettered_len h
  have hne : ¬ l = [] := fun e => by rw [e] at hl; simp at hl
  have e : chkF [80, 78] l = if l.count 94 ≤ 4 then 0 else 6 := by
    show (if decide (l.count 94 ≤ 4) && txtB l then (0 : Int) else 6) = _
    rw [lettered_txt h, Bool.and_true]
    by_cases hc : l.count 94 ≤ 4 <;> simp [hc]
  unfold chk; rw [if_neg (fun c => hne c.2), e]
/-- The bytes of patterns. -/
def Patterned (p : Bs) : Prop := ∀ c ∈ p, c ∈ alphabet ∨ c = 122 ∨ c = 42 ∨ c = 63 ∨ c = 49
theorem patterned_text {p : Bs} (h : Patterned p) (hl : p.length ≤ 64) : isTextB p = true ∧ isTextB (Lib.toLowerA p) = true := by
  constructor
  · unfold isTextB
    rw [decide_eq_true hl, Bool.true_and, List.all_eq_true]
    exact fun c hc => (alpha_text c (h c hc)).1
  · unfold isTextB Lib.toLowerA
    rw [decide_eq_true (by simpa using hl), Bool.true_and, List.all_eq_true]
    intro c hc
    obtain ⟨d, hd, rfl⟩ := List.mem_map.1 hc
    exact (alpha_text d (h d hd)).2
theorem match_LO {p v : Bs} (hv : Lettered v) (hp : p ≠ []) (ht : isTextB p = true) : matchV [76, 79] p v = glob p v ∧ matchE [76, 79] p v = 0 := by
  have hc := chk_LO hv
  have hi : isPatB [76, 79] p = true := ht
  refine ⟨?_, ?_⟩
  · unfold matchV; rw [if_neg (fun h => h hc), if_neg hp, hi]; rfl
  · unfold matchE; rw [if_neg (fun h => h hc), if_neg hp, hi]; rfl
theorem match_PN {p v : Bs} (hv : Lettered v) (hp : p ≠ []) (ht : isTextB p = true) :
    matchV [80, 78] p v = (decide (v.count 94 ≤ 4) && glob (Lib.toLowerA p) (Lib.toLowerA v)) ∧ matchE [80, 78] p v = if v.count 94 ≤ 4 then 0 else 6 := by
  have hc := chk_PN hv
  have hi : isPatB [80, 78] p = true := ht
  by_cases h4 : v.count 94 ≤ 4
  · rw [if_pos h4] at hc
    refine ⟨?_, ?_⟩
    · unfold matchV; rw [if_neg (fun h => h hc), if_neg hp, hi, decide_eq_true h4]; rfl
    · unfold matchE; rw [if_neg (fun h => h hc), if_neg hp, hi, if_pos h4]; rfl
  · rw [if_neg h4] at hc
    refine ⟨?_, ?_⟩
    · unfold matchV; rw [if_pos (by rw [hc]; omega), decide_eq_false h4]; rfl
    · unfold matchE; rw [if_pos (by rw [hc]; omega), if_neg h4, hc]

theorem made_nonempty {v p : Bs} (hv : Lettered v) (h : Made v p) : p ≠ [] := by
  obtain ⟨V, rfl, _, _⟩ := hv
  intro e
  subst e
  cases V with
  | nil =>
    obtain ⟨q, r, hp, hq, _⟩ := h
    rcases hq with rfl | rfl | rfl | rfl <;> simp at hp
  | cons x V =>
    obtain ⟨q, r, hp, hq, _⟩ := h
    rcases hq with rfl | rfl | rfl | rfl <;> simp at hp
/-- What the four calls of Match answer. -/
theorem wild_facts (v p : Bs) (hv : Lettered v) (hM : Made v p) (hl : p.length ≤ 63) :
    (matchV [76, 79] p v = true ∧ matchE [76, 79] p v = 0) ∧ (matchV [76, 79] (p ++ [49]) v = false ∧ matchE [76, 79] (p ++ [49]) v = 0) ∧
    ((Lib.toLowerA p = p → matchV [76, 79] (Lib.toLowerA p) v = true) ∧ matchE [76, 79] (Lib.toLowerA p) v = 0) ∧
    (matchV [80, 78] (Lib.toLowerA p) v = decide (v.count 94 ≤ 4) ∧ matchE [80, 78] (Lib.toLowerA p) v = if v.count 94 ≤ 4 then 0 else 6) := by
  have hpt : Patterned p := fun c hc => by
    rcases made_mem v p hM c hc with h | h | h
    · simp [h]
    · simp [h]
    · rcases lettered_mem hv c h with h | h <;> simp [h]
  have hpt1 : Patterned (p ++ [49]) := fun c hc => by
    rw [List.mem_append, List.mem_singleton] at hc
    rcases hc with hc | hc
    · exact hpt c hc
    · simp [hc]
  have hne := made_nonempty hv hM
  have hnl : Lib.toLowerA p ≠ [] := fun e => hne (by simpa [Lib.toLowerA] using e)
  have hstar : ∀ c ∈ v, c ≠ 42 := fun c hc => by
    rcases lettered_mem hv c hc with h | h
    · intro e; subst e; revert h; decide
    · rw [h]; decide
  have hg := made_fits v p hstar hM
  have t0 := patterned_text hpt (by omega)
  have t1 := patterned_text hpt1 (by simp; omega)
  refine ⟨?_, ?_, ?_, ?_⟩
  · have := match_LO hv hne t0.1
    exact ⟨by rw [this.1, hg], this.2⟩
  · have := match_LO hv (by simp) t1.1
    refine ⟨?_, this.2⟩
    rw [this.1, Bool.eq_false_iff]
    intro e
    have := glob_last 49 (by decide) (by decide) p v e
    rw [lettered_last hv] at this
    cases this
  · have := match_LO hv hnl t0.2
    exact ⟨fun e => by rw [this.1, e, hg], this.2⟩
  · have := match_PN hv hnl t0.2
    refine ⟨?_, this.2⟩
    rw [this.1, lower_lower]
    have hm : glob (Lib.toLowerA p) (Lib.toLowerA v) = true := glob_map Lib.lowerB (by decide) (by decide) low_42 p v hg
    rw [hm, Bool.and_true]
theorem count_snoc (l : Bs) (c : UInt8) : (l ++ [c]).count 94 = l.count 94 + if (c.toNat : Int) = 94 then 1 else 0 := by
  rw [List.count_append]
  congr 1
  by_cases h : c = 94
  · subst h; rfl
  · have h1 : ¬ (c.toNat : Int) = 94 := fun e => h (UInt8.toNat_inj.1 (by show c.toNat = 94; omega))
    rw [if_neg h1]
    simp [h]
end Go.Proofs.YtaokifbpakbgdaaGreatDoor
