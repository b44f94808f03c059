/-
  Patterns with * and ?: what fits them, and that going back to the last * alone finds it (no program).
-/
import Derived.Test.YtaokifbpakbgdaaGreatDoorText
namespace Go.Proofs.YtaokifbpakbgdaaGreatDoor

/-- Does a pattern fit all of a text? 42 is *, 63 is ?. -/
def glob : Bs → Bs → Bool
  | [] => fun v => v.isEmpty
  | c :: p => fun v => if c = 42 then (List.range (v.length + 1)).any fun t => glob p (v.drop t) else match v with
    | [] => false
    | x :: v => (decide (c = 63) || decide (c = x)) && glob p v
theorem glob_star (p v : Bs) : glob (42 :: p) v = true ↔ ∃ t, t ≤ v.length ∧ glob p (v.drop t) = true := by
  conv => lhs; lhs; unfold glob
  simp only [if_true, List.any_eq_true, List.mem_range]
  exact ⟨fun ⟨t, h, k⟩ => ⟨t, by omega, k⟩, fun ⟨t, h, k⟩ => ⟨t, by omega, k⟩⟩
theorem glob_nil (c : UInt8) (p : Bs) (h : c ≠ 42) : glob (c :: p) [] = false := by unfold glob; simp [h]
theorem glob_cons (c x : UInt8) (p v : Bs) (h : c ≠ 42) : glob (c :: p) (x :: v) = ((decide (c = 63) || decide (c = x)) && glob p v) := by
  conv => lhs; unfold glob
  simp [h]
theorem glob_star_mono (p v : Bs) (t : Nat) (h : glob (42 :: p) (v.drop t) = true) : glob (42 :: p) v = true := by
  rw [glob_star] at h ⊢
  obtain ⟨u, h1, h2⟩ := h
  rw [List.drop_drop] at h2
  by_cases ht : t ≤ v.length
  · exact ⟨t + u, by simp at h1; omega, h2⟩
  · refine ⟨v.length, Nat.le_refl _, ?_⟩
    rw [List.drop_eq_nil_of_le (by omega)] at h2
    rwa [List.drop_eq_nil_of_le (Nat.le_refl _)]
/-- A stretch without * takes as many bytes. -/
theorem glob_run (q : Bs) : ∀ (a v : Bs), 42 ∉ a → glob (a ++ q) v = true → a.length ≤ v.length ∧ glob q (v.drop a.length) = true
  | [], v, _, h => ⟨Nat.zero_le _, h⟩
  | c :: a, v, hn, h => by
    have hc : c ≠ 42 := fun e => hn (by simp [e])
    cases v with
    | nil => rw [List.cons_append, glob_nil c _ hc] at h; cases h
    | cons x v =>
      rw [List.cons_append, glob_cons c x _ _ hc, Bool.and_eq_true] at h
      have := glob_run q a v (fun e => hn (by simp [e])) h.2
      exact ⟨by simp; omega, by simpa using this.2⟩
theorem glob_end (p : Bs) : glob p [] = p.all (fun c => decide (c = 42)) := by
  induction p with
  | nil => rfl
  | cons c p ih =>
    by_cases h : c = 42
    · subst h
      rw [Bool.eq_iff_iff, glob_star]
      simp only [List.length_nil, List.drop_nil, ih]
      constructor
      · rintro ⟨t, _, h⟩; simpa using h
      · intro h; exact ⟨0, Nat.le_refl _, by simpa using h⟩
    · rw [glob_nil c p h]; simp [h]

/-- Where the search stands: at p of the pattern and v of the text; s: behind the last *, -1: there was none; from st on it took. -/
def Inv (P V : Bs) (p v : Nat) (s : Int) (st : Nat) : Prop :=
  p ≤ P.length ∧ v ≤ V.length ∧ st ≤ v ∧
  (s = -1 ∨ ∃ a n : Nat, s = a ∧ p = a + n ∧ v = st + n ∧ 42 ∉ (P.drop a).take n) ∧
  (glob P V = true ↔ (glob (P.drop p) (V.drop v) = true ∨ ∃ a : Nat, s = a ∧ ∃ t, st < t ∧ t ≤ V.length ∧ glob (P.drop a) (V.drop t) = true))
theorem inv_start (P V : Bs) : Inv P V 0 0 (-1) 0 :=
  ⟨Nat.zero_le _, Nat.zero_le _, Nat.le_refl _, Or.inl rfl, ⟨fun h => Or.inl h, fun h => h.elim id fun ⟨a, h, _⟩ => by omega⟩⟩
/-- What would fit with a longer stretch for the last * leaves room at p for what comes behind. -/
theorem inv_later {P V : Bs} {p v st a n t : Nat} (hp : p = a + n) (hv : v = st + n) (hn : 42 ∉ (P.drop a).take n) (hpl : p ≤ P.length) (ht : st < t) (ht2 : t ≤ V.length)
    (h : glob (P.drop a) (V.drop t) = true) : n + t ≤ V.length ∧ glob (P.drop p) ((V.drop v).drop (t - st)) = true := by
  have hl : ((P.drop a).take n).length = n := by simp; omega
  rw [← List.take_append_drop n (P.drop a)] at h
  have := glob_run _ _ _ hn h
  rw [hl, List.drop_drop, List.drop_drop] at this
  refine ⟨?_, ?_⟩
  · have := this.1
    simp only [List.length_drop] at this
    omega
  · rw [List.drop_drop, hp, hv]
    have e : st + n + (t - st) = t + n := by omega
    rw [e]
    exact this.2

theorem drop_cons {l : Bs} {k : Nat} (h : k < l.length) : l.drop k = l[k] :: l.drop (k + 1) := List.drop_eq_getElem_cons h
theorem inv_star {P V : Bs} {p v : Nat} {s : Int} {st : Nat} (h : Inv P V p v s st) (hp : p < P.length) (hc : P[p] = 42) : Inv P V (p + 1) v ((p + 1 : Nat) : Int) v := by
  obtain ⟨h1, h2, h3, h4, h5⟩ := h
  have hG : glob (P.drop p) (V.drop v) = true ↔ ∃ t, v ≤ t ∧ t ≤ V.length ∧ glob (P.drop (p + 1)) (V.drop t) = true := by
    rw [drop_cons hp, hc, glob_star]
    constructor
    · rintro ⟨t, ht, hg⟩
      rw [List.drop_drop] at hg
      exact ⟨v + t, by omega, by simp only [List.length_drop] at ht; omega, hg⟩
    · rintro ⟨t, ht1, ht2, hg⟩
      refine ⟨t - v, by simp only [List.length_drop]; omega, ?_⟩
      rw [List.drop_drop, show v + (t - v) = t by omega]
      exact hg
  refine ⟨by omega, h2, Nat.le_refl _, Or.inr ⟨p + 1, 0, rfl, rfl, rfl, by simp⟩, ?_⟩
  rw [h5]
  constructor
  · intro hx
    have hg : glob (P.drop p) (V.drop v) = true := by
      rcases hx with hx | ⟨a, ha, t, ht1, ht2, hg⟩
      · exact hx
      · rcases h4 with h4 | ⟨a', n, ha', hp', hv', hn⟩
        · omega
        · obtain rfl : a = a' := by omega
          have := (inv_later hp' hv' hn h1 ht1 ht2 hg).2
          rw [drop_cons hp, hc] at this ⊢
          exact glob_star_mono _ _ _ this
    obtain ⟨t, ht1, ht2, hg2⟩ := hG.1 hg
    by_cases e : t = v
    · rw [e] at hg2; exact Or.inl hg2
    · exact Or.inr ⟨p + 1, rfl, t, by omega, ht2, hg2⟩
  · intro hx
    left
    rw [hG]
    rcases hx with hx | ⟨a, ha, t, ht1, ht2, hg⟩
    · exact ⟨v, Nat.le_refl _, h2, hx⟩
    · obtain rfl : a = p + 1 := by omega
      exact ⟨t, by omega, ht2, hg⟩
theorem inv_char {P V : Bs} {p v : Nat} {s : Int} {st : Nat} (h : Inv P V p v s st) (hp : p < P.length) (hv : v < V.length) (hc : P[p] ≠ 42) (hm : P[p] = 63 ∨ P[p] = V[v]) :
    Inv P V (p + 1) (v + 1) s st := by
  obtain ⟨h1, h2, h3, h4, h5⟩ := h
  refine ⟨by omega, by omega, by omega, ?_, ?_⟩
  · rcases h4 with h4 | ⟨a, n, ha, hp', hv', hn⟩
    · exact Or.inl h4
    · refine Or.inr ⟨a, n + 1, ha, by omega, by omega, ?_⟩
      have hlt : n < (P.drop a).length := by simp only [List.length_drop]; omega
      rw [List.take_succ_eq_append_getElem hlt, List.mem_append]
      rintro (hx | hx)
      · exact hn hx
      · rw [List.mem_singleton, List.getElem_drop] at hx
        exact hc (by rw [hx]; congr 1)
  · rw [h5, drop_cons hp, drop_cons hv, glob_cons _ _ _ _ hc]
    have : (decide (P[p] = 63) || decide (P[p] = V[v])) = true := by simpa using hm
    rw [this, Bool.true_and]
/-- It does not fit here. -/
def Stuck (P V : Bs) (p v : Nat) : Prop := glob (P.drop p) (V.drop v) = false
theorem stuck_end {P V : Bs} {p v : Nat} (hp : P.length ≤ p) (hv : v < V.length) : Stuck P V p v := by
  unfold Stuck
  rw [List.drop_eq_nil_of_le hp, drop_cons hv]; rfl
theorem stuck_char {P V : Bs} {p v : Nat} (hp : p < P.length) (hv : v < V.length) (hc : P[p] ≠ 42) (hm : ¬ (P[p] = 63 ∨ P[p] = V[v])) : Stuck P V p v := by
  unfold Stuck
  rw [drop_cons hp, drop_cons hv, glob_cons _ _ _ _ hc]
  have : (decide (P[p] = 63) || decide (P[p] = V[v])) = false := by simpa using hm
  rw [this, Bool.false_and]
theorem inv_retry {P V : Bs} {p v : Nat} {a st : Nat} (h : Inv P V p v (a : Int) st) (hs : Stuck P V p v) (hv : v < V.length) : Inv P V a (st + 1) (a : Int) (st + 1) := by
  obtain ⟨h1, h2, h3, h4, h5⟩ := h
  have hap : a ≤ p := by
    rcases h4 with h4 | ⟨a', n, ha', hp', _, _⟩ <;> omega
  refine ⟨by omega, by omega, Nat.le_refl _, Or.inr ⟨a, 0, rfl, rfl, rfl, by simp⟩, ?_⟩
  rw [h5, hs]
  constructor
  · rintro (hx | ⟨a', ha, t, ht1, ht2, hg⟩)
    · cases hx
    · obtain rfl : a' = a := by omega
      by_cases e : t = st + 1
      · subst e; exact Or.inl hg
      · exact Or.inr ⟨a', rfl, t, by omega, ht2, hg⟩
  · rintro (hx | ⟨a', ha, t, ht1, ht2, hg⟩)
    · exact Or.inr ⟨a, rfl, st + 1, by omega, by omega, hx⟩
    · exact Or.inr ⟨a', ha, t, by omega, ht2, hg⟩
theorem inv_dead {P V : Bs} {p v : Nat} {s : Int} {st : Nat} (h : Inv P V p v s st) (hs : Stuck P V p v) (hn : s < 0) : glob P V = false := by
  rw [Bool.eq_false_iff, ne_eq, h.2.2.2.2, hs]
  rintro (hx | ⟨a, ha, _⟩)
  · cases hx
  · omega
theorem inv_end {P V : Bs} {p v : Nat} {s : Int} {st : Nat} (h : Inv P V p v s st) (hv : V.length ≤ v) : glob P V = (P.drop p).all (fun c => decide (c = 42)) := by
  obtain ⟨h1, h2, h3, h4, h5⟩ := h
  rw [Bool.eq_iff_iff, h5, List.drop_eq_nil_of_le hv, glob_end]
  constructor
  · rintro (hx | ⟨a, ha, t, ht1, ht2, hg⟩)
    · exact hx
    · rcases h4 with h4 | ⟨a', n, ha', hp', hv', hn⟩
      · omega
      · obtain rfl : a = a' := by omega
        have := (inv_later hp' hv' hn h1 ht1 ht2 hg).1
        omega
  · exact fun hx => Or.inl hx
theorem inv_bounds {P V : Bs} {p v : Nat} {s : Int} {st : Nat} (h : Inv P V p v s st) : p ≤ P.length ∧ v ≤ V.length ∧ st ≤ v ∧ -1 ≤ s ∧ s ≤ P.length := by
  obtain ⟨h1, h2, h3, h4, _⟩ := h
  rcases h4 with h4 | ⟨a', n, ha', hp', _, _⟩ <;> exact ⟨h1, h2, h3, by omega, by omega⟩
/-- How much is left to be tried. -/
def leftG (P V : Bs) (p v st : Nat) : Nat := (V.length - st) * (P.length + V.length + 1) + (P.length - p) + (V.length - v)
theorem left_retry {P V : Bs} {p v a st : Nat} (h : st < V.length) : leftG P V a (st + 1) (st + 1) < leftG P V p v st := by
  unfold leftG
  obtain ⟨d, hd⟩ : ∃ d, V.length - st = d + 1 := ⟨V.length - st - 1, by omega⟩
  rw [hd, show V.length - (st + 1) = d by omega, Nat.succ_mul]
  omega
theorem left_star {P V : Bs} {p v st : Nat} (hp : p < P.length) (h : st ≤ v) : leftG P V (p + 1) v v < leftG P V p v st := by
  unfold leftG
  have : (V.length - v) * (P.length + V.length + 1) ≤ (V.length - st) * (P.length + V.length + 1) := Nat.mul_le_mul_right _ (by omega)
  omega
theorem left_char {P V : Bs} {p v st : Nat} (hp : p < P.length) : leftG P V (p + 1) (v + 1) st < leftG P V p v st := by
  unfold leftG
  omega
theorem dropWhile_nil (q : UInt8 → Bool) : ∀ (l : Bs), l.dropWhile q = [] ↔ ∀ x ∈ l, q x = true
  | [] => by simp
  | c :: l => by
    rw [List.dropWhile_cons]
    by_cases h : q c = true
    · rw [if_pos h, dropWhile_nil q l]; simp [h]
    · rw [if_neg h]; simp [h]
theorem takeWhile_all (q : UInt8 → Bool) : ∀ (l : Bs), ∀ x ∈ l.takeWhile q, q x = true
  | [], x, h => by simp at h
  | c :: l, x, h => by
    rw [List.takeWhile_cons] at h
    by_cases hc : q c = true
    · rw [if_pos hc, List.mem_cons] at h
      rcases h with rfl | h
      · exact hc
      · exact takeWhile_all q l x h
    · rw [if_neg hc] at h; simp at h
theorem trim_all (l : Bs) : (Lib.trimB l 42 = []) ↔ l.all (fun c => decide (c = 42)) = true := by
  unfold Lib.trimB Lib.trimLeftB Lib.trimRightB
  rw [dropWhile_nil]
  simp only [List.mem_reverse, List.all_eq_true, decide_eq_true_eq, beq_iff_eq]
  constructor
  · intro h x hx
    have := List.takeWhile_append_dropWhile (p := fun y : UInt8 => y == 42) (l := l.reverse)
    have hx' : x ∈ l.reverse := List.mem_reverse.2 hx
    rw [← this, List.mem_append] at hx'
    rcases hx' with hx' | hx'
    · simpa using takeWhile_all _ _ _ hx'
    · exact h x hx'
  · intro h x hx
    exact h x (List.mem_reverse.1 ((List.dropWhile_sublist _).mem hx))

/- What fits a pattern, kind by kind. -/
def leB (a b : Bs) : Bool := Op.bytesLess a b || a == b
def withinB (f t v : Bs) : Bool := leB f v && (decide (t = []) || leB v t)
def fillB (m : Bs) : Nat → Bs → Bs
  | 0, t => t
  | n + 1, t => if t ≠ [] ∧ t.length < 6 then fillB m n (t ++ m) else t
def filledB (t m : Bs) : Bs := fillB m 6 t
theorem fill_stop (m : Bs) (n : Nat) (t : Bs) (h : ¬ (t ≠ [] ∧ t.length < 6)) : fillB m n t = t := by
  cases n with
  | zero => rfl
  | succ n => rw [fillB, if_neg h]
theorem fill_go (m : Bs) (n : Nat) (t : Bs) (h : t ≠ [] ∧ t.length < 6) : fillB m (n + 1) t = fillB m n (t ++ m) := by rw [fillB, if_pos h]
def cutB (p : Bs) : Bs × Bs × Bool := Lib.cut p [45]
def fitsDateB (p v : Bs) : Bool := if (cutB p).2.2 then withinB (cutB p).1 (cutB p).2.1 v else v == (cutB p).1
def fitsTimeB (p v : Bs) : Bool :=
  if (cutB p).2.2 then withinB (filledB (cutB p).1 [48, 48]) (filledB (cutB p).2.1 [53, 57]) (filledB v [48, 48])
  else Lib.hasPrefix v (cutB p).1 || Lib.hasPrefix (cutB p).1 v
def sameB (p v : Bs) : Bool := decide ((numB p).getD 0 = (numB v).getD 0)
def spanB (k p : Bs) : Bool :=
  if (cutB p).2.2 then !decide (p = [45]) && decide (chk k (cutB p).1 = 0) && decide (chk k (cutB p).2.1 = 0) else decide (chkF k (cutB p).1 = 0)
def isPatB (k p : Bs) : Bool :=
  if k = [76, 79] ∨ k = [80, 78] ∨ k = [67, 83] then isTextB p
  else if k = [85, 73] then (spl 92 p).all fun x => decide (chkF k x = 0)
  else if k = [68, 65] ∨ k = [84, 77] then spanB k p
  else decide (chkF k p = 0)
def fitsB (k p v : Bs) : Bool :=
  if k = [80, 78] then glob (Lib.toLowerA p) (Lib.toLowerA v)
  else if k = [76, 79] ∨ k = [67, 83] then glob p v
  else if v = [] then false
  else if k = [68, 65] then fitsDateB p v
  else if k = [84, 77] then fitsTimeB p v
  else if k = [73, 83] then sameB p v
  else decide (v ∈ spl 92 p)
def matchV (k p v : Bs) : Bool := if chk k v ≠ 0 then false else if p = [] then true else if isPatB k p then fitsB k p v else false
def matchE (k p v : Bs) : Int := if chk k v ≠ 0 then chk k v else if p = [] then 0 else if isPatB k p then 0 else 12
end Go.Proofs.YtaokifbpakbgdaaGreatDoor
