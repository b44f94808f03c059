/-
  The reader of bytes leaves no more than there was; how much it is allowed to go on does not show (no program).
-/
import Derived.Test.YtaokifbpakbgdaaGreatDoorTree
namespace Go.Proofs.YtaokifbpakbgdaaGreatDoor

theorem tk_len {k : Nat} {s a r : By} (h : tk k s = some (a, r)) : a.length = k ∧ a.length + r.length = s.length := by
  unfold tk at h
  split at h
  · simp only [Option.some.injEq, Prod.mk.injEq] at h
    obtain ⟨rfl, rfl⟩ := h
    simp only [List.length_take, List.length_drop]
    omega
  · cases h
theorem nu_len {k n : Nat} {s r : By} (h : nu k s = some (n, r)) : r.length + k = s.length ∧ n < 256 ^ k := by
  unfold nu at h
  split at h
  · cases h
  · rename_i a r' e
    simp only [Option.some.injEq, Prod.mk.injEq] at h
    obtain ⟨rfl, rfl⟩ := h
    have h1 := tk_len e
    have h2 := le_lt a
    rw [h1.1] at h2
    exact ⟨by omega, h2⟩
theorem tg_len {t : Nat} {s r : By} (h : tg s = some (t, r)) : r.length + 4 = s.length ∧ t < 4294967296 := by
  unfold tg at h
  split at h
  · cases h
  · rename_i u r1 e1
    have h1 := nu_len e1
    split at h
    · cases h
    · rename_i l r2 e2
      have h2 := nu_len e2
      simp only [Option.some.injEq, Prod.mk.injEq] at h
      obtain ⟨rfl, rfl⟩ := h
      have h256 : (256 : Nat) ^ 2 = 65536 := rfl
      omega
theorem ze_len {k : Nat} {s r : By} (h : ze k s = some r) : r.length + k = s.length := by
  unfold ze at h
  split at h
  · cases h
  · rename_i n r' e
    have h1 := nu_len e
    split at h
    · cases h; exact h1.1
    · cases h
theorem va_len {k s v r : By} (h : va k s = some (v, r)) : r.length + 2 ≤ s.length := by
  unfold va at h
  split at h
  · cases h
  · rename_i n r1 e1
    have h1 := nu_len e1
    split at h
    · split at h
      · cases h
      · rename_i a r2 e2
        have h2 := tk_len e2
        cases h
        omega
    · cases h
/-- It leaves no more than there was. -/
def Eats {α : Type} (f : Nat → By → Option (α × By)) : Prop := ∀ t s x r, f t s = some (x, r) → r.length ≤ s.length
theorem toMark_len {α : Type} {m : Nat} {f : Nat → By → Option (α × By)} (hf : Eats f) : ∀ (k : Nat) (s : By) (l : List α) (r : By), toMark m f k s = some (l, r) → r.length + 4 ≤ s.length
  | 0, s, l, r, h => by cases h
  | k + 1, s, l, r, h => by
    rw [toMark] at h
    split at h
    · cases h
    · rename_i t r1 e1
      have h1 := tg_len e1
      split at h
      · split at h
        · cases h
        · rename_i r2 e2
          have h2 := ze_len e2
          cases h
          omega
      · split at h
        · cases h
        · rename_i x r2 e2
          have h2 := hf _ _ _ _ e2
          split at h
          · cases h
          · rename_i l3 r3 e3
            have h3 := toMark_len hf k _ _ _ e3
            cases h
            omega
theorem lg_len {α : Type} {m : Nat} {f : Nat → By → Option (α × By)} (hf : Eats f) {s r : By} {l : List α} (h : lg m f s = some (l, r)) : r.length + 4 ≤ s.length := by
  unfold lg at h
  split at h
  · cases h
  · rename_i n r1 e1
    have h1 := nu_len e1
    split at h
    · have := toMark_len hf _ _ _ _ h
      omega
    · split at h
      · cases h
      · rename_i a r2 e2
        have h2 := tk_len e2
        split at h
        · cases h
        · cases h
          omega
theorem itP_eats {α : Type} {f : Nat → By → Option (α × By)} (hf : Eats f) : Eats (itP f) := by
  intro t s x r h
  unfold itP at h
  split at h
  · have := lg_len hf h; omega
  · cases h
theorem elP_eats : ∀ (m n : Nat), Eats (elP m n)
  | 0, n => by intro t s x r h; cases h
  | m + 1, n => by
    intro t s x r h
    rw [elP] at h
    split at h
    · cases h
    · split at h
      · cases h
      · rename_i k r1 e1
        have h1 := tk_len e1
        split at h
        · split at h
          · cases h
          · rename_i r2 e2
            have h2 := ze_len e2
            split at h
            · cases h
            · rename_i its r3 e3
              have h3 := lg_len (itP_eats (elP_eats m (n - 1))) e3
              cases h
              omega
        · split at h
          · cases h
          · rename_i v r2 e2
            have h2 := va_len e2
            cases h
            omega
/-- How much it may go on does not show. -/
theorem toEnd_fuel {α : Type} {f : Nat → By → Option (α × By)} (hf : Eats f) : ∀ (k k' : Nat) (s : By), s.length ≤ k → s.length ≤ k' → toEnd f k s = toEnd f k' s
  | 0, k', s, h, _ => by
    have : s = [] := List.eq_nil_of_length_eq_zero (by omega)
    subst this
    cases k' <;> rfl
  | k + 1, 0, s, _, h => by
    have : s = [] := List.eq_nil_of_length_eq_zero (by omega)
    subst this
    rfl
  | k + 1, k' + 1, s, h, h' => by
    rw [toEnd, toEnd]
    split
    · rfl
    · split
      · rfl
      · rename_i t r1 e1
        have h1 := tg_len e1
        split
        · rfl
        · rename_i x r2 e2
          have h2 := hf _ _ _ _ e2
          rw [toEnd_fuel hf k k' r2 (by omega) (by omega)]
theorem toMark_fuel {α : Type} {m : Nat} {f : Nat → By → Option (α × By)} (hf : Eats f) : ∀ (k k' : Nat) (s : By), s.length ≤ k → s.length ≤ k' → toMark m f k s = toMark m f k' s
  | 0, 0, s, h, _ => rfl
  | 0, k' + 1, s, h, _ => by
    have : s = [] := List.eq_nil_of_length_eq_zero (by omega)
    subst this
    rfl
  | k + 1, 0, s, _, h => by
    have : s = [] := List.eq_nil_of_length_eq_zero (by omega)
    subst this
    rfl
  | k + 1, k' + 1, s, h, h' => by
    rw [toMark, toMark]
    split
    · rfl
    · rename_i t r1 e1
      have h1 := tg_len e1
      split
      · rfl
      · split
        · rfl
        · rename_i x r2 e2
          have h2 := hf _ _ _ _ e2
          rw [toMark_fuel hf k k' r2 (by omega) (by omega)]
/-- One thing, and what follows. -/
theorem toEnd_step {α : Type} {f : Nat → By → Option (α × By)} (hf : Eats f) {s : By} (hs : s ≠ []) : toEnd f s.length s = (match tg s with
    | none => none
    | some (t, r) => match f t r with
      | none => none
      | some (x, r2) => (toEnd f r2.length r2).map (x :: ·)) := by
  obtain ⟨k, hk⟩ : ∃ k, s.length = k + 1 := ⟨s.length - 1, by have := List.length_pos_iff.2 hs; omega⟩
  rw [hk, toEnd, if_neg hs]
  cases e1 : tg s with
  | none => rfl
  | some p =>
    obtain ⟨t, r1⟩ := p
    have h1 := tg_len e1
    simp only []
    cases e2 : f t r1 with
    | none => rfl
    | some q =>
      obtain ⟨x, r2⟩ := q
      have h2 := hf _ _ _ _ e2
      simp only []
      rw [toEnd_fuel hf k r2.length r2 (by omega) (Nat.le_refl _)]
      cases toEnd f r2.length r2 <;> rfl
theorem toMark_step {α : Type} {m : Nat} {f : Nat → By → Option (α × By)} (hf : Eats f) (s : By) : toMark m f s.length s = (match tg s with
    | none => none
    | some (t, r) => if t = m then (ze 4 r).map (fun r => ([], r)) else match f t r with
      | none => none
      | some (x, r2) => (toMark m f r2.length r2).map (fun p => (x :: p.1, p.2))) := by
  by_cases hs : s = []
  · subst hs; rfl
  obtain ⟨k, hk⟩ : ∃ k, s.length = k + 1 := ⟨s.length - 1, by have := List.length_pos_iff.2 hs; omega⟩
  rw [hk, toMark]
  cases e1 : tg s with
  | none => rfl
  | some p =>
    obtain ⟨t, r1⟩ := p
    have h1 := tg_len e1
    simp only []
    by_cases ht : t = m
    · rw [if_pos ht, if_pos ht]
      cases ze 4 r1 <;> rfl
    · rw [if_neg ht, if_neg ht]
      cases e2 : f t r1 with
      | none => rfl
      | some q =>
        obtain ⟨x, r2⟩ := q
        have h2 := hf _ _ _ _ e2
        simp only []
        rw [toMark_fuel hf k r2.length r2 (by omega) (Nat.le_refl _)]
        cases toMark m f r2.length r2 <;> rfl
end Go.Proofs.YtaokifbpakbgdaaGreatDoor
