/-
  The same reader of bytes, going on from place to place (no program).
-/
import Derived.Test.YtaokifbpakbgdaaGreatDoorFuel
namespace Go.Proofs.YtaokifbpakbgdaaGreatDoor

/-- The bytes from a place to another. -/
def win (s : By) (a e : Nat) : By := (s.take e).drop a
theorem win_length {s : By} {a e : Nat} (h : e ≤ s.length) : (win s a e).length = e - a := by
  unfold win
  rw [List.length_drop, List.length_take]; omega
theorem win_drop (s : By) (a e k : Nat) : (win s a e).drop k = win s (a + k) e := by
  unfold win; rw [List.drop_drop]
theorem win_take (s : By) (a e k : Nat) (h : a + k ≤ e) : (win s a e).take k = win s a (a + k) := by
  unfold win
  rw [List.take_drop, List.take_take, Nat.min_eq_left h]
theorem win_all (s : By) : win s 0 s.length = s := by unfold win; simp
theorem win_self (s : By) (a : Nat) (h : a ≤ s.length) : win s a a = [] := List.eq_nil_of_length_eq_zero (by rw [win_length h]; omega)
theorem win_win (s : By) (a b e : Nat) (h : b ≤ e) : win (s.take e) a b = win s a b := by unfold win; rw [List.take_take, Nat.min_eq_left h]
/-- The number at a place. -/
def numA (s : By) (a k : Nat) : Nat := le (win s a (a + k))
def tagA (s : By) (a : Nat) : Nat := 65536 * numA s a 2 + numA s (a + 2) 2
theorem numA_lt {s : By} {a k : Nat} (h : a + k ≤ s.length) : numA s a k < 256 ^ k := by
  have := le_lt (win s a (a + k))
  rw [win_length h] at this
  rw [show a + k - a = k by omega] at this
  exact this
theorem tagA_lt {s : By} {a : Nat} (h : a + 4 ≤ s.length) : tagA s a < 4294967296 := by
  have h1 := numA_lt (s := s) (a := a) (k := 2) (by omega)
  have h2 := numA_lt (s := s) (a := a + 2) (k := 2) (by omega)
  have h3 : (256 : Nat) ^ 2 = 65536 := rfl
  unfold tagA; omega
theorem tk_win {s : By} {a e : Nat} (k : Nat) (h : e ≤ s.length) (ha : a ≤ e) : tk k (win s a e) = if a + k ≤ e then some (win s a (a + k), win s (a + k) e) else none := by
  unfold tk
  rw [win_length h]
  by_cases hk : a + k ≤ e
  · rw [if_pos (by omega), if_pos hk, win_take _ _ _ _ hk, win_drop]
  · rw [if_neg (by omega), if_neg hk]
theorem nu_win {s : By} {a e : Nat} (k : Nat) (h : e ≤ s.length) (ha : a ≤ e) : nu k (win s a e) = if a + k ≤ e then some (numA s a k, win s (a + k) e) else none := by
  unfold nu
  rw [tk_win k h ha]
  by_cases hk : a + k ≤ e
  · rw [if_pos hk, if_pos hk]; rfl
  · rw [if_neg hk, if_neg hk]
theorem tg_win {s : By} {a e : Nat} (h : e ≤ s.length) (ha : a ≤ e) : tg (win s a e) = if a + 4 ≤ e then some (tagA s a, win s (a + 4) e) else none := by
  unfold tg
  rw [nu_win 2 h ha]
  by_cases h2 : a + 2 ≤ e
  · rw [if_pos h2]
    simp only []
    rw [nu_win 2 h h2]
    by_cases h4 : a + 4 ≤ e
    · rw [if_pos (by omega), if_pos h4]; rfl
    · rw [if_neg (by omega), if_neg h4]
  · rw [if_neg h2, if_neg (by omega)]
theorem ze_win {s : By} {a e : Nat} (k : Nat) (h : e ≤ s.length) (ha : a ≤ e) : ze k (win s a e) = if a + k ≤ e ∧ numA s a k = 0 then some (win s (a + k) e) else none := by
  unfold ze
  rw [nu_win k h ha]
  by_cases hk : a + k ≤ e
  · rw [if_pos hk]
    simp only []
    by_cases h0 : numA s a k = 0
    · rw [if_pos h0, if_pos ⟨hk, h0⟩]
    · rw [if_neg h0, if_neg (fun e => h0 e.2)]
  · rw [if_neg hk, if_neg (fun e => hk e.1)]

/-- One thing; things up to the end or to a mark. -/
def one {α : Type} (f : Nat → By → Option (α × By)) (s : By) : Option (α × By) := match tg s with
  | none => none
  | some (t, r) => f t r
def setP {α : Type} (o : Bool) (M : Nat) (f : Nat → By → Option (α × By)) (s : By) : Option (List α × By) := if o then toMark M f s.length s else (toEnd f s.length s).map (fun l => (l, []))
def markB (M : Nat) (s : By) : Bool := match tg s with
  | none => false
  | some (t, r) => match ze 4 r with
    | none => false
    | some _ => decide (t = M)
theorem markB_win {s : By} {a e : Nat} (M : Nat) (h : e ≤ s.length) (ha : a ≤ e) : markB M (win s a e) = decide (a + 8 ≤ e ∧ tagA s a = M ∧ numA s (a + 4) 4 = 0) := by
  unfold markB
  rw [tg_win h ha]
  by_cases h4 : a + 4 ≤ e
  · rw [if_pos h4]
    simp only []
    rw [ze_win 4 h h4]
    by_cases h8 : a + 4 + 4 ≤ e ∧ numA s (a + 4) 4 = 0
    · rw [if_pos h8]
      simp only []
      exact decide_eq_decide.2 ⟨fun e => ⟨by omega, e, h8.2⟩, fun e => e.2.1⟩
    · rw [if_neg h8]
      simp only []
      exact (decide_eq_false (fun e => h8 ⟨by omega, e.2.2⟩)).symm
  · rw [if_neg h4]
    exact (decide_eq_false (fun e => by omega)).symm
theorem one_eats {α : Type} {f : Nat → By → Option (α × By)} (hf : Eats f) {s r : By} {x : α} (h : one f s = some (x, r)) : r.length + 4 ≤ s.length := by
  unfold one at h
  split at h
  · cases h
  · rename_i t r1 e1
    have h1 := tg_len e1
    have h2 := hf _ _ _ _ h
    omega
theorem ze4_drop {s r1 r : By} {t : Nat} (h1 : tg s = some (t, r1)) (h2 : ze 4 r1 = some r) : r = s.drop 8 := by
  have a1 : r1 = s.drop 4 := by
    have hl := tg_len h1
    have := tg_win (s := s) (a := 0) (e := s.length) (Nat.le_refl _) (Nat.zero_le _)
    rw [win_all, if_pos (by omega), h1] at this
    injection this with this
    injection this with _ this
    rw [this]; unfold win; simp
  have hl := ze_len h2
  have := ze_win (s := r1) (a := 0) (e := r1.length) 4 (Nat.le_refl _) (Nat.zero_le _)
  rw [win_all, h2] at this
  split at this
  · injection this with this
    rw [this, a1]; unfold win
    rw [List.take_of_length_le (Nat.le_refl _), List.drop_drop]
  · cases this
theorem setP_mark {α : Type} {M : Nat} {f : Nat → By → Option (α × By)} (hf : Eats f) {s : By} (h : markB M s = true) : setP true M f s = some ([], s.drop 8) := by
  show toMark M f s.length s = _
  rw [toMark_step hf]
  unfold markB at h
  cases e1 : tg s with
  | none => rw [e1] at h; cases h
  | some p =>
    obtain ⟨t, r⟩ := p
    rw [e1] at h
    simp only [] at h ⊢
    cases e2 : ze 4 r with
    | none => rw [e2] at h; cases h
    | some r2 =>
      rw [e2] at h
      simp only [decide_eq_true_eq] at h
      rw [if_pos h, Option.map_some, ze4_drop e1 e2]
theorem setP_end {α : Type} {M : Nat} {f : Nat → By → Option (α × By)} : setP false M f [] = some (([] : List α), []) := rfl
theorem setP_none {α : Type} {o : Bool} {M : Nat} {f : Nat → By → Option (α × By)} (hf : Eats f) {s : By} (h : (o = true ∧ markB M s = false) ∨ (o = false ∧ s ≠ [])) (h1 : one f s = none) : setP o M f s = none := by
  unfold one at h1
  rcases h with ⟨rfl, h⟩ | ⟨rfl, h⟩
  · show toMark M f s.length s = none
    rw [toMark_step hf]
    unfold markB at h
    cases e1 : tg s with
    | none => rfl
    | some p =>
      obtain ⟨t, r⟩ := p
      rw [e1] at h h1
      simp only [] at h h1 ⊢
      by_cases ht : t = M
      · rw [if_pos ht]
        cases e2 : ze 4 r with
        | none => rfl
        | some r2 => rw [e2] at h; simp at h; exact absurd ht h
      · rw [if_neg ht, h1]
  · show (toEnd f s.length s).map _ = none
    rw [toEnd_step hf h]
    cases e1 : tg s with
    | none => rfl
    | some p =>
      obtain ⟨t, r⟩ := p
      rw [e1] at h1
      simp only [] at h1 ⊢
      rw [h1]; rfl
theorem setP_one {α : Type} {o : Bool} {M : Nat} {f : Nat → By → Option (α × By)} (hf : Eats f) (hM : ∀ r, f M r = none) {s r : By} {x : α} (h : (o = true ∧ markB M s = false) ∨ (o = false ∧ s ≠ [])) (h1 : one f s = some (x, r)) : setP o M f s = (setP o M f r).map (fun p => (x :: p.1, p.2)) := by
  unfold one at h1
  rcases h with ⟨rfl, h⟩ | ⟨rfl, h⟩
  · show toMark M f s.length s = (toMark M f r.length r).map _
    rw [toMark_step hf]
    cases e1 : tg s with
    | none => rw [e1] at h1; cases h1
    | some p =>
      obtain ⟨t, r1⟩ := p
      rw [e1] at h1
      simp only [] at h1 ⊢
      by_cases ht : t = M
      · rw [ht, hM] at h1; cases h1
      · rw [if_neg ht, h1]
  · show (toEnd f s.length s).map _ = ((toEnd f r.length r).map _).map _
    rw [toEnd_step hf h]
    cases e1 : tg s with
    | none => rw [e1] at h1; cases h1
    | some p =>
      obtain ⟨t, r1⟩ := p
      rw [e1] at h1
      simp only [] at h1 ⊢
      rw [h1]
      simp only []
      cases toEnd f r.length r <;> rfl
/-- The rest behind a thing. -/
theorem setP_rest {α : Type} {o : Bool} {M : Nat} {f : Nat → By → Option (α × By)} (hf : Eats f) {s r : By} {l : List α} (h : setP o M f s = some (l, r)) : r.length ≤ s.length := by
  cases o with
  | true => have := toMark_len hf _ _ _ _ h; omega
  | false =>
    unfold setP at h
    simp only [Bool.false_eq_true, if_false, Option.map_eq_some_iff, Prod.mk.injEq] at h
    obtain ⟨_, _, _, rfl⟩ := h
    simp
/-- Things of so many bytes, or up to a mark. -/
def lgN {α : Type} (M : Nat) (f : Nat → By → Option (α × By)) (k : Nat) (r : By) : Option (List α × By) := if k = 4294967295 then setP true M f r else match tk k r with
  | none => none
  | some (a, r2) => (setP false M f a).map (fun p => (p.1, r2))
theorem lg_N {α : Type} (M : Nat) (f : Nat → By → Option (α × By)) (s : By) : lg M f s = match nu 4 s with
    | none => none
    | some (k, r) => lgN M f k r := by
  unfold lg
  cases nu 4 s with
  | none => rfl
  | some p =>
    obtain ⟨k, r⟩ := p
    simp only []
    unfold lgN
    by_cases hk : k = 4294967295
    · rw [if_pos hk, if_pos hk]; rfl
    · rw [if_neg hk, if_neg hk]
      cases tk k r with
      | none => rfl
      | some q =>
        obtain ⟨a, r2⟩ := q
        simp only []
        unfold setP
        simp only [Bool.false_eq_true, if_false]
        cases toEnd f a.length a <;> rfl
theorem lgN_open {α : Type} {M : Nat} {f : Nat → By → Option (α × By)} {r : By} : lgN M f 4294967295 r = setP true M f r := if_pos rfl
theorem lgN_closed {α : Type} {M : Nat} {f : Nat → By → Option (α × By)} {s : By} {a e k : Nat} (h : e ≤ s.length) (ha : a ≤ e) (hk : k ≠ 4294967295) (hf : a + k ≤ e) : lgN M f k (win s a e) = (setP false M f (win s a (a + k))).map (fun p => (p.1, win s (a + k) e)) := by
  unfold lgN
  rw [if_neg hk, tk_win k h ha, if_pos hf]
theorem lgN_short {α : Type} {M : Nat} {f : Nat → By → Option (α × By)} {s : By} {a e k : Nat} (h : e ≤ s.length) (ha : a ≤ e) (hk : k ≠ 4294967295) (hf : ¬ a + k ≤ e) : lgN M f k (win s a e) = none := by
  unfold lgN
  rw [if_neg hk, tk_win k h ha, if_neg hf]
/-- An item at a place. -/
theorem one_it {α : Type} {f : Nat → By → Option (α × By)} {s : By} {a e : Nat} (h : e ≤ s.length) (ha : a ≤ e) : one (itP f) (win s a e) = if a + 8 ≤ e ∧ tagA s a = 4294893568 then lgN 4294893581 f (numA s (a + 4) 4) (win s (a + 8) e) else none := by
  unfold one
  rw [tg_win h ha]
  by_cases h4 : a + 4 ≤ e
  · rw [if_pos h4]
    simp only []
    unfold itP
    by_cases ht : tagA s a = 4294893568
    · rw [if_pos ht, lg_N, nu_win 4 h h4]
      by_cases h8 : a + 8 ≤ e
      · rw [if_pos (by omega), if_pos ⟨h8, ht⟩]
      · rw [if_neg (by omega), if_neg (fun e => h8 e.1)]
    · rw [if_neg ht, if_neg (fun e => ht e.2)]
  · rw [if_neg h4, if_neg (fun e => by omega)]
/-- An element at a place. -/
theorem one_short {m n : Nat} {s : By} {a e : Nat} (h : e ≤ s.length) (ha : a ≤ e) (h8 : ¬ a + 8 ≤ e) : one (elP (m + 1) n) (win s a e) = none := by
  unfold one
  rw [tg_win h ha]
  by_cases h4 : a + 4 ≤ e
  · rw [if_pos h4]
    simp only []
    rw [elP]
    split
    · rfl
    · rw [tk_win 2 h h4]
      by_cases h6 : a + 4 + 2 ≤ e
      · rw [if_pos h6]
        simp only []
        split
        · rw [ze_win 2 h h6, if_neg (fun e => by omega)]
        · unfold va
          rw [nu_win 2 h h6, if_neg (by omega)]
      · rw [if_neg h6]
  · rw [if_neg h4]
theorem one_res {m n : Nat} {s : By} {a e : Nat} (h : e ≤ s.length) (ha : a ≤ e) (ht : tagA s a / 65536 = 65534) : one (elP (m + 1) n) (win s a e) = none := by
  unfold one
  rw [tg_win h ha]
  by_cases h4 : a + 4 ≤ e
  · rw [if_pos h4]
    simp only []
    rw [elP, if_pos ht]
  · rw [if_neg h4]
theorem one_el {m n : Nat} {s : By} {a e : Nat} (h : e ≤ s.length) (h8 : a + 8 ≤ e) (ht : tagA s a / 65536 ≠ 65534) : one (elP (m + 1) n) (win s a e) =
    if win s (a + 4) (a + 6) = SQ then (if numA s (a + 6) 2 = 0 ∧ a + 12 ≤ e then (lgN 4294893789 (itP (elP m (n - 1))) (numA s (a + 8) 4) (win s (a + 12) e)).map (fun p => (mkE n (tagA s a) (win s (a + 4) (a + 6)) [] p.1, p.2)) else none)
    else (if numA s (a + 6) 2 % 2 = 0 ∧ a + 8 + numA s (a + 6) 2 ≤ e then some (mkE n (tagA s a) (win s (a + 4) (a + 6)) (trimB (padB (win s (a + 4) (a + 6))) (win s (a + 8) (a + 8 + numA s (a + 6) 2))) [], win s (a + 8 + numA s (a + 6) 2) e) else none) := by
  unfold one
  rw [tg_win h (by omega), if_pos (by omega)]
  simp only []
  rw [elP, if_neg ht, tk_win 2 h (by omega), if_pos (by omega)]
  simp only []
  by_cases hq : win s (a + 4) (a + 6) = SQ
  · rw [if_pos hq, if_pos (by exact hq), ze_win 2 h (by omega)]
    by_cases h0 : numA s (a + 6) 2 = 0
    · rw [if_pos ⟨by omega, h0⟩]
      simp only []
      rw [lg_N, nu_win 4 h (by omega)]
      by_cases h12 : a + 12 ≤ e
      · rw [if_pos (by omega), if_pos ⟨h0, h12⟩]
        simp only []
        show (match lgN 4294893789 (itP (elP m (n - 1))) (numA s (a + 8) 4) (win s (a + 12) e) with | none => none | some (its, r) => some (mkE n (tagA s a) (win s (a + 4) (a + 6)) [] its, r)) = _
        cases lgN 4294893789 (itP (elP m (n - 1))) (numA s (a + 8) 4) (win s (a + 12) e) <;> rfl
      · rw [if_neg (by omega), if_neg (fun e => h12 e.2)]
    · rw [if_neg (fun e => h0 e.2), if_neg (fun e => h0 e.1)]
  · rw [if_neg hq, if_neg (by exact hq)]
    unfold va
    rw [nu_win 2 h (by omega), if_pos (by omega)]
    simp only []
    by_cases hp : numA s (a + 6) 2 % 2 = 0
    · rw [if_pos (by exact hp)]
      rw [show a + 4 + 2 + 2 = a + 8 by omega, show a + 4 + 2 = a + 6 by omega, tk_win _ h h8]
      by_cases hk : a + 8 + numA s (a + 6) 2 ≤ e
      · rw [if_pos hk, if_pos ⟨hp, hk⟩]
      · rw [if_neg hk, if_neg (fun e => hk e.2)]
    · rw [if_neg (by exact hp), if_neg (fun e => hp e.1)]
/-- The pads at the end. -/
theorem trim_nil (p : UInt8) : trimB p [] = [] := rfl
theorem win_snoc {s : By} {a k : Nat} (h : k < s.length) (ha : a ≤ k) : win s a (k + 1) = win s a k ++ [s[k]] := by
  unfold win
  rw [List.take_succ_eq_append_getElem h, List.drop_append_of_le_length (by rw [List.length_take]; omega)]
theorem trim_pad {s : By} {a k : Nat} {p : UInt8} (h : k < s.length) (ha : a ≤ k) (hp : s[k] = p) : trimB p (win s a (k + 1)) = trimB p (win s a k) := by
  rw [win_snoc h ha]
  unfold trimB
  rw [List.reverse_append, List.reverse_singleton, List.singleton_append, List.dropWhile_cons, if_pos (by simp [hp])]
theorem trim_else {s : By} {a k : Nat} {p : UInt8} (h : k < s.length) (ha : a ≤ k) (hp : s[k] ≠ p) : trimB p (win s a (k + 1)) = win s a (k + 1) := by
  rw [win_snoc h ha]
  unfold trimB
  rw [List.reverse_append, List.reverse_singleton, List.singleton_append, List.dropWhile_cons, if_neg (by simpa using hp)]
  simp
theorem elP_mark (m n M : Nat) (h : M / 65536 = 65534) : ∀ r, elP m n M r = none := by
  intro r
  cases m with
  | zero => rfl
  | succ m => rw [elP, if_pos h]
theorem itP_mark {α : Type} (f : Nat → By → Option (α × By)) (r : By) : itP f 4294893789 r = none := by
  unfold itP
  exact if_neg (by decide)
theorem parse_set (n : Nat) (s : By) : parse n s = (setP false 4294893581 (elP (s.length + 1) n) s).map (·.1) := by
  unfold parse setP
  simp only [Bool.false_eq_true, if_false]
  cases toEnd (elP (s.length + 1) n) s.length s <;> rfl
end Go.Proofs.YtaokifbpakbgdaaGreatDoor
