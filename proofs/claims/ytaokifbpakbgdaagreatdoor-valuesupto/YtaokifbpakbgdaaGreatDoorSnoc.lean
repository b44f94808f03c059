/-
  Patterns with * and ?, told from their ends: of each beginning of the pattern, which beginnings of the text it fits (no program).
-/
import Derived.Test.YtaokifbpakbgdaaGreatDoorWildText
namespace Go.Proofs.YtaokifbpakbgdaaGreatDoor

theorem glob_snoc (c x : UInt8) (hc : c ≠ 42) : ∀ (P V : Bs), glob (P ++ [c]) (V ++ [x]) = (glob P V && (decide (c = 63) || decide (c = x)))
  | [], [] => by rw [List.nil_append, List.nil_append, glob_cons c x [] [] hc, Bool.and_comm]
  | [], y :: V => by
    rw [List.nil_append, List.cons_append, glob_cons c y [] _ hc]
    have e1 : glob [] (V ++ [x]) = false := by cases V <;> rfl
    have e2 : glob [] (y :: V) = false := rfl
    rw [e1, e2, Bool.and_false, Bool.false_and]
  | d :: P, V => by
    by_cases hd : d = 42
    · subst hd
      rw [List.cons_append, Bool.eq_iff_iff, Bool.and_eq_true, glob_star, glob_star]
      constructor
      · rintro ⟨t, ht, h⟩
        by_cases hl : t ≤ V.length
        · rw [List.drop_append_of_le_length hl, glob_snoc c x hc P, Bool.and_eq_true] at h
          exact ⟨⟨t, hl, h.1⟩, h.2⟩
        · rw [List.drop_eq_nil_of_le (by simp; omega), glob_end] at h
          simp [hc] at h
      · rintro ⟨⟨t, ht, h⟩, hx⟩
        refine ⟨t, by simp; omega, ?_⟩
        rw [List.drop_append_of_le_length ht, glob_snoc c x hc P, h, hx]; rfl
    · cases V with
      | nil =>
        rw [List.cons_append, List.nil_append, glob_cons d x _ _ hd, glob_nil d P hd, glob_end]
        simp [hc]
      | cons y V => rw [List.cons_append, List.cons_append, glob_cons d y _ _ hd, glob_cons d y _ _ hd, glob_snoc c x hc P V, Bool.and_assoc]
theorem glob_snoc_star : ∀ (P V : Bs), glob (P ++ [42]) V = true ↔ ∃ j, j ≤ V.length ∧ glob P (V.take j) = true
  | [], V => by
    rw [List.nil_append, glob_star]
    exact ⟨fun _ => ⟨0, Nat.zero_le _, rfl⟩, fun _ => ⟨V.length, Nat.le_refl _, by rw [List.drop_eq_nil_of_le (Nat.le_refl _)]; rfl⟩⟩
  | d :: P, V => by
    by_cases hd : d = 42
    · subst hd
      rw [List.cons_append, glob_star]
      constructor
      · rintro ⟨t, ht, h⟩
        rw [glob_snoc_star P] at h
        obtain ⟨j, hj, h⟩ := h
        simp only [List.length_drop] at hj
        refine ⟨t + j, by omega, ?_⟩
        rw [glob_star]
        refine ⟨t, by simp; omega, ?_⟩
        rw [List.drop_take, show t + j - t = j by omega]
        exact h
      · rintro ⟨j, hj, h⟩
        rw [glob_star] at h
        obtain ⟨t, ht, h⟩ := h
        simp only [List.length_take] at ht
        refine ⟨t, by omega, ?_⟩
        rw [glob_snoc_star P]
        refine ⟨j - t, by simp; omega, ?_⟩
        rw [List.drop_take] at h
        exact h
    · cases V with
      | nil =>
        rw [List.cons_append, glob_nil d _ hd]
        simp [glob_nil d P hd]
      | cons y V =>
        rw [List.cons_append, glob_cons d y _ _ hd, Bool.and_eq_true, glob_snoc_star P V]
        constructor
        · rintro ⟨h1, j, hj, h2⟩
          refine ⟨j + 1, by simp; omega, ?_⟩
          rw [List.take_succ_cons, glob_cons d y _ _ hd, h1, h2]; rfl
        · rintro ⟨j, hj, h⟩
          cases j with
          | zero => rw [List.take_zero, glob_nil d P hd] at h; cases h
          | succ j =>
            rw [List.take_succ_cons, glob_cons d y _ _ hd, Bool.and_eq_true] at h
            exact ⟨h.1, j, by simp at hj; omega, h.2⟩
/-- Does the pattern fit the first k bytes? -/
def dp (P V : Bs) (k : Nat) : Bool := glob P (V.take k)
theorem dp_nil (V : Bs) (k : Nat) (hk : k ≤ V.length) : dp [] V k = decide (k = 0) := by
  unfold dp
  cases k with
  | zero => rfl
  | succ k =>
    cases V with
    | nil => simp at hk
    | cons y V => rfl
theorem dp_star (P V : Bs) (k : Nat) (hk : k ≤ V.length) : dp (P ++ [42]) V k = (dp P V k || (decide (0 < k) && dp (P ++ [42]) V (k - 1))) := by
  unfold dp
  rw [Bool.eq_iff_iff, glob_snoc_star]
  simp only [Bool.or_eq_true, Bool.and_eq_true, decide_eq_true_eq, glob_snoc_star, List.length_take, List.take_take]
  constructor
  · rintro ⟨j, hj, h⟩
    by_cases e : j = k
    · subst e; left; rwa [Nat.min_self] at h
    · right
      refine ⟨by omega, j, by omega, ?_⟩
      rw [show min j (k - 1) = j by omega]
      rwa [show min j k = j by omega] at h
  · rintro (h | ⟨h0, j, hj, h⟩)
    · exact ⟨k, by omega, by rwa [Nat.min_self]⟩
    · refine ⟨j, by omega, ?_⟩
      rw [show min j k = j by omega]
      rwa [show min j (k - 1) = j by omega] at h
theorem dp_zero (c : UInt8) (hc : c ≠ 42) (P V : Bs) : dp (P ++ [c]) V 0 = false := by
  unfold dp
  rw [List.take_zero, glob_end]
  simp [hc]
theorem dp_succ (c : UInt8) (hc : c ≠ 42) (P V : Bs) (k : Nat) (hk : k < V.length) : dp (P ++ [c]) V (k + 1) = (dp P V k && (decide (c = 63) || decide (c = V[k]))) := by
  unfold dp
  rw [List.take_succ_eq_append_getElem hk, glob_snoc c _ hc]
/-- A letter as a small one, where it is asked. -/
def fl (fold : Bool) (c : UInt8) : UInt8 := if fold then Lib.lowerB c else c
theorem low_63 (c : UInt8) : Lib.lowerB c = 63 ↔ c = 63 := by
  have := of_fin (fun c => decide (Lib.lowerB c = 63) == decide (c = 63)) (by decide +kernel) c
  simpa using this
theorem fl_42 (fold : Bool) (c : UInt8) : fl fold c = 42 ↔ c = 42 := by
  cases fold
  · exact Iff.rfl
  · exact ⟨fun h => low_42 c h, fun h => by rw [h]; rfl⟩
theorem fl_63 (fold : Bool) (c : UInt8) : fl fold c = 63 ↔ c = 63 := by
  cases fold
  · exact Iff.rfl
  · exact low_63 c
theorem low_up' (c : UInt8) (h1 : 65 ≤ c.toNat) (h2 : c.toNat ≤ 90) : UInt8.ofNat (c.toNat + 32) = Lib.lowerB c := by
  have := of_fin (fun c => !(decide (65 ≤ c.toNat) && decide (c.toNat ≤ 90)) || decide (UInt8.ofNat (c.toNat + 32) = Lib.lowerB c)) (by decide +kernel) c
  simpa [h1, h2] using this
theorem low_id' (c : UInt8) (h : ¬ (65 ≤ c.toNat ∧ c.toNat ≤ 90)) : Lib.lowerB c = c := by
  have := of_fin (fun c => (decide (65 ≤ c.toNat) && decide (c.toNat ≤ 90)) || decide (Lib.lowerB c = c)) (by decide +kernel) c
  have h' : (decide (65 ≤ c.toNat) && decide (c.toNat ≤ 90)) = false := by simp; omega
  rw [h', Bool.false_or, decide_eq_true_eq] at this
  exact this
end Go.Proofs.YtaokifbpakbgdaaGreatDoor
