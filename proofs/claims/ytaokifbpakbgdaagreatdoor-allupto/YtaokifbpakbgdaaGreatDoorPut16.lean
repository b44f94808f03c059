/-
  Several texts in one; what each one has stands at its head.
-/
import Derived.Test.YtaokifbpakbgdaaGreatDoorPut4
import Derived.Test.YtaokifbpakbgdaaGreatDoorPut15
/- The same reader of bytes, going on from place to place (no program). -/
namespace Go.Proofs.YtaokifbpakbgdaaGreatDoor

/-- The bytes from a place to another. -/
def win (s : By) (a e : Nat) : By := (s.take e).drop a
theorem win_length {s : By} {a e : Nat} (h : e ≤ s.length) : (win s a e).length = e - a := by
  unfold win
  rw [List.length_drop, List.length_take]; omega
theorem win_drop (s : By) (a e k : Nat) : (win s a e).drop k = win s (a + k) e := by
  unfold win; rw [List.drop_drop]
theorem win_take (s : By) (a e k : Nat) (h : a + k ≤ e) : (win s a e).take k = win s a (a + k) := by
  unfold win
  rw [List.take_drop, List.take_take, Nat.min_eq_left h]
theorem win_all (s : By) : win s 0 s.length = s := by unfold win; simp
theorem win_self (s : By) (a : Nat) (h : a ≤ s.length) : win s a a = [] := List.eq_nil_of_length_eq_zero (by rw [win_length h]; omega)
theorem win_win (s : By) (a b e : Nat) (h : b ≤ e) : win (s.take e) a b = win s a b := by unfold win; rw [List.take_take, Nat.min_eq_left h]
/-- The number at a place. -/
def numA (s : By) (a k : Nat) : Nat := le (win s a (a + k))
def tagA (s : By) (a : Nat) : Nat := 65536 * numA s a 2 + numA s (a + 2) 2
theorem numA_lt {s : By} {a k : Nat} (h : a + k ≤ s.length) : numA s a k < 256 ^ k := by
  have := le_lt (win s a (a + k))
  rw [win_length h] at this
  rw [show a + k - a = k by omega] at this
  exact this
theorem tagA_lt {s : By} {a : Nat} (h : a + 4 ≤ s.length) : tagA s a < 4294967296 := by
  have h1 := numA_lt (s := s) (a := a) (k := 2) (by omega)
  have h2 := numA_lt (s := s) (a := a + 2) (k := 2) (by omega)
  have h3 : (256 : Nat) ^ 2 = 65536 := rfl
  unfold tagA; omega
theorem tk_win {s : By} {a e : Nat} (k : Nat) (h : e ≤ s.length) (ha : a ≤ e) : tk k (win s a e) = if a + k ≤ e then some (win s a (a + k), win s (a + k) e) else none := by
  unfold tk
  rw [win_length h]
  by_cases hk : a + k ≤ e
  · rw [if_pos (by omega), if_pos hk, win_take _ _ _ _ hk, win_drop]
  · rw [if_neg (by omega), if_neg hk]
theorem nu_win {s : By} {a e : Nat} (k : Nat) (h : e ≤ s.length) (ha : a ≤ e) : nu k (win s a e) = if a + k ≤ e then some (numA s a k, win s (a + k) e) else none := by
  unfold nu
  rw [tk_win k h ha]
  by_cases hk : a + k ≤ e
  · rw [if_pos hk, if_pos hk]; rfl
  · rw [if_neg hk, if_neg hk]
theorem tg_win {s : By} {a e : Nat} (h : e ≤ s.length) (ha : a ≤ e) : tg (win s a e) = if a + 4 ≤ e then some (tagA s a, win s (a + 4) e) else none := by
  unfold tg
  rw [nu_win 2 h ha]
  by_cases h2 : a + 2 ≤ e
  · rw [if_pos h2]
    simp only []
    rw [nu_win 2 h h2]
    by_cases h4 : a + 4 ≤ e
    · rw [if_pos (by omega), if_pos h4]; rfl
    · rw [if_neg (by omega), if_neg h4]
  · rw [if_neg h2, if_neg (by omega)]
theorem ze_win {s : By} {a e : Nat} (k : Nat) (h : e ≤ s.length) (ha : a ≤ e) : ze k (win s a e) = if a + k ≤ e ∧ numA s a k = 0 then some (win s (a + k) e) else none := by
  unfold ze
  rw [nu_win k h ha]
  by_cases hk : a + k ≤ e
  · rw [if_pos hk]
    simp only []
    by_cases h0 : numA s a k = 0
    · rw [if_pos h0, if_pos ⟨hk, h0⟩]
    · rw [if_neg h0, if_neg (fun e => h0 e.2)]
  · rw [if_neg hk, if_neg (fun e => hk e.1)]

/-- One thing; things up to the end or to a mark. -/
def one {α : Type} (f : Nat → By → Option (α × By)) (s : By) : Option (α × By) := match tg s with
  | none => none
  | some (t, r) => f t r
def setP {α : Type} (o : Bool) (M : Nat) (f : Nat → By → Option (α × By)) (s : By) : Option (List α × By) := if o then toMark M f s.length s else (toEnd f s.length s).map (fun l => (l, []))
def markB (M : Nat) (s : By) : Bool := match tg s with
  | none => false
  | some (t, r) => match ze 4 r with
    | none => false
    | some _ => decide (t = M)
theorem markB_win {s : By} {a e : Nat} (M : Nat) (h : e ≤ s.length) (ha : a ≤ e) : markB M (win s a e) = decide (a + 8 ≤ e ∧ tagA s a = M ∧ numA s (a + 4) 4 = 0) := by
  unfold markB
  rw [tg_win h ha]
  by_cases h4 : a + 4 ≤ e
  · rw [if_pos h4]
    simp only []
    rw [ze_win 4 h h4]
    by_cases h8 : a + 4 + 4 ≤ e ∧ numA s (a + 4) 4 = 0
    · rw [if_pos h8]
      simp only []
      exact decide_eq_decide.2 ⟨fun e => ⟨by omega, e, h8.2⟩, fun e => e.2.1⟩
    · rw [if_neg h8]
      simp only []
      exact (decide_eq_false (fun e => h8 ⟨by omega, e.2.2⟩)).symm
  · rw [if_neg h4]
    exact (decide_eq_false (fun e => by omega)).symm
theorem one_eats {α : Type} {f : Nat → By → Option (α × By)} (hf : Eats f) {s r : By} {x : α} (h : one f s = some (x, r)) : r.length + 4 ≤ s.length := by
  unfold one at h
  split at h
  · cases h
  · rename_i t r1 e1
    have h1 := tg_len e1
    have h2 := hf _ _ _ _ h
    omega
theorem ze4_drop {s r1 r : By} {t : Nat} (h1 : tg s = some (t, r1)) (h2 : ze 4 r1 = some r) : r = s.drop 8 := by
  have a1 : r1 = s.drop 4 := by
    have hl := tg_len h1
    have := tg_win (s := s) (a := 0) (e := s.length) (Nat.le_refl _) (Nat.zero_le _)
    rw [win_all, if_pos (by omega), h1] at this
    injection this with this
    injection this with _ this
    rw [this]; unfold win; simp
  have hl := ze_len h2
  have := ze_win (s := r1) (a := 0) (e := r1.length) 4 (Nat.le_refl _) (Nat.zero_le _)
  rw [win_all, h2] at this
  split at this
  · injection this with this
    rw [this, a1]; unfold win
    rw [List.take_of_length_le (Nat.le_refl _), List.drop_drop]
  · cases this
theorem setP_mark {α : Type} {M : Nat} {f : Nat → By → Option (α × By)} (hf : Eats f) {s : By} (h : markB M s = true) : setP true M f s = some ([], s.drop 8) := by
  show toMark M f s.length s = _
  rw [toMark_step hf]
  unfold markB at h
  cases e1 : tg s with
  | none => rw [e1] at h; cases h
  | some p =>
    obtain ⟨t, r⟩ := p
    rw [e1] at h
    simp only [] at h ⊢
    cases e2 : ze 4 r with
    | none => rw [e2] at h; cases h
    | some r2 =>
      rw [e2] at h
      simp only [decide_eq_true_eq] at h
      rw [if_pos h, Option.map_some, ze4_drop e1 e2]
theorem setP_end {α : Type} {M : Nat} {f : Nat → By → Option (α × By)} : setP false M f [] = some (([] : List α), []) := rfl
theorem setP_none {α : Type} {o : Bool} {M : Nat} {f : Nat → By → Option (α × By)} (hf : Eats f) {s : By} (h : (o = true ∧ markB M s = false) ∨ (o = false ∧ s ≠ [])) (h1 : one f s = none) : setP o M f s = none := by
  unfold one at h1
  rcases h with ⟨rfl, h⟩ | ⟨rfl, h⟩
  · show toMark M f s.length s = none
    rw [toMark_step hf]
    unfold markB at h
    cases e1 : tg s with
    | none => rfl
    | some p =>
      obtain ⟨t, r⟩ := p
      rw [e1] at h h1
      simp only [] at h h1 ⊢
      by_cases ht : t = M
      · rw [if_pos ht]
        cases e2 : ze 4 r with
        | none => rfl
        | some r2 => rw [e2] at h; simp at h; exact absurd ht h
      · rw [if_neg ht, h1]
  · show (toEnd f s.length s).map _ = none
    rw [toEnd_step hf h]
    cases e1 : tg s with
    | none => rfl
    | some p =>
      obtain ⟨t, r⟩ := p
      rw [e1] at h1
      simp only [] at h1 ⊢
      rw [h1]; rfl
theorem setP_one {α : Type} {o : Bool} {M : Nat} {f : Nat → By → Option (α × By)} (hf : Eats f) (hM : ∀ r, f M r = none) {s r : By} {x : α} (h : (o = true ∧ markB M s = false) ∨ (o = false ∧ s ≠ [])) (h1 : one f s = some (x, r)) : setP o M f s = (setP o M f r).map (fun p => (x :: p.1, p.2)) := by
  unfold one at h1
  rcases h with ⟨rfl, h⟩ | ⟨rfl, h⟩
  · show toMark M f s.length s = (toMark M f r.length r).map _
    rw [toMark_step hf]
    cases e1 : tg s with
    | none => rw [e1] at h1; cases h1
    | some p =>
      obtain ⟨t, r1⟩ := p
      rw [e1] at h1
      simp only [] at h1 ⊢
      by_cases ht : t = M
      · rw [ht, hM] at h1; cases h1
      · rw [if_neg ht, h1]
  · show (toEnd f s.length s).map _ = ((toEnd f r.length r).map _).map _
    rw [toEnd_step hf h]
    cases e1 : tg s with
    | none => rw [e1] at h1; cases h1
    | some p =>
      obtain ⟨t, r1⟩ := p
      rw [e1] at h1
      simp only [] at h1 ⊢
      rw [h1]
      simp only []
      cases toEnd f r.length r <;> rfl
/-- The rest behind a thing. -/
theorem setP_rest {α : Type} {o : Bool} {M : Nat} {f : Nat → By → Option (α × By)} (hf : Eats f) {s r : By} {l : List α} (h : setP o M f s = some (l, r)) : r.length ≤ s.length := by
  cases o with
  | true => have := toMark_len hf _ _ _ _ h; omega
  | false =>
    unfold setP at h
    simp only [Bool.false_eq_true, if_false, Option.map_eq_some_iff, Prod.mk.injEq] at h
    obtain ⟨_, _, _, rfl⟩ := h
    simp
/-- Things of so many bytes, or up to a mark. -/
def lgN {α : Type} (M : Nat) (f : Nat → By → Option (α × By)) (k : Nat) (r : By) : Option (List α × By) := if k = 4294967295 then setP true M f r else match tk k r with
  | none => none
  | some (a, r2) => (setP false M f a).map (fun p => (p.1, r2))
theorem lg_N {α : Type} (M : Nat) (f : Nat → By → Option (α × By)) (s : By) : lg M f s = match nu 4 s with
    | none => none
    | some (k, r) => lgN M f k r := by
  unfold lg
  cases nu 4 s with
  | none => rfl
  | some p =>
    obtain ⟨k, r⟩ := p
    simp only []
    unfold lgN
    by_cases hk : k = 4294967295
    · rw [if_pos hk, if_pos hk]; rfl
    · rw [if_neg hk, if_neg hk]
      cases tk k r with
      | none => rfl
      | some q =>
        obtain ⟨a, r2⟩ := q
        simp only []
        unfold setP
        simp only [Bool.false_eq_true, if_false]
        cases toEnd f a.length a <;> rfl
theorem lgN_open {α : Type} {M : Nat} {f : Nat → By → Option (α × By)} {r : By} : lgN M f 4294967295 r = setP true M f r := if_pos rfl
theorem lgN_closed {α : Type} {M : Nat} {f : Nat → By → Option (α × By)} {s : By} {a e k : Nat} (h : e ≤ s.length) (ha : a ≤ e) (hk : k ≠ 4294967295) (hf : a + k ≤ e) : lgN M f k (win s a e) = (setP false M f (win s a (a + k))).map (fun p => (p.1, win s (a + k) e)) := by
  unfold lgN
  rw [if_neg hk, tk_win k h ha, if_pos hf]
theorem lgN_short {α : Type} {M : Nat} {f : Nat → By → Option (α × By)} {s : By} {a e k : Nat} (h : e ≤ s.length) (ha : a ≤ e) (hk : k ≠ 4294967295) (hf : ¬ a + k ≤ e) : lgN M f k (win s a e) = none := by
  unfold lgN
  rw [if_neg hk, tk_win k h ha, if_neg hf]
/-- An item at a place. -/
theorem one_it {α : Type} {f : Nat → By → Option (α × By)} {s : By} {a e : Nat} (h : e ≤ s.length) (ha : a ≤ e) : one (itP f) (win s a e) = if a + 8 ≤ e ∧ tagA s a = 4294893568 then lgN 4294893581 f (numA s (a + 4) 4) (win s (a + 8) e) else none := by
  unfold one
  rw [tg_win h ha]
  by_cases h4 : a + 4 ≤ e
  · rw [if_pos h4]
    simp only []
    unfold itP
    by_cases ht : tagA s a = 4294893568
    · rw [if_pos ht, lg_N, nu_win 4 h h4]
      by_cases h8 : a + 8 ≤ e
      · rw [if_pos (by omega), if_pos ⟨h8, ht⟩]
      · rw [if_neg (by omega), if_neg (fun e => h8 e.1)]
    · rw [if_neg ht, if_neg (fun e => ht e.2)]
  · rw [if_neg h4, if_neg (fun e => by omega)]
/-- An element at a place. -/
theorem one_short {m n : Nat} {s : By} {a e : Nat} (h : e ≤ s.length) (ha : a ≤ e) (h8 : ¬ a + 8 ≤ e) : one (elP (m + 1) n) (win s a e) = none := by
  unfold one
  rw [tg_win h ha]
  by_cases h4 : a + 4 ≤ e
  · rw [if_pos h4]
    simp only []
    rw [elP]
    split
    · rfl
    · rw [tk_win 2 h h4]
      by_cases h6 : a + 4 + 2 ≤ e
      · rw [if_pos h6]
        simp only []
        split
        · rw [ze_win 2 h h6, if_neg (fun e => by omega)]
        · unfold va
          rw [nu_win 2 h h6, if_neg (by omega)]
      · rw [if_neg h6]
  · rw [if_neg h4]
theorem one_res {m n : Nat} {s : By} {a e : Nat} (h : e ≤ s.length) (ha : a ≤ e) (ht : tagA s a / 65536 = 65534) : one (elP (m + 1) n) (win s a e) = none := by
  unfold one
  rw [tg_win h ha]
  by_cases h4 : a + 4 ≤ e
  · rw [if_pos h4]
    simp only []
    rw [elP, if_pos ht]
  · rw [if_neg h4]
theorem one_el {m n : Nat} {s : By} {a e : Nat} (h : e ≤ s.length) (h8 : a + 8 ≤ e) (ht : tagA s a / 65536 ≠ 65534) : one (elP (m + 1) n) (win s a e) =
    if win s (a + 4) (a + 6) = SQ then (if numA s (a + 6) 2 = 0 ∧ a + 12 ≤ e then (lgN 4294893789 (itP (elP m (n - 1))) (numA s (a + 8) 4) (win s (a + 12) e)).map (fun p => (mkE n (tagA s a) (win s (a + 4) (a + 6)) [] p.1, p.2)) else none)
    else (if numA s (a + 6) 2 % 2 = 0 ∧ a + 8 + numA s (a + 6) 2 ≤ e then some (mkE n (tagA s a) (win s (a + 4) (a + 6)) (trimB (padB (win s (a + 4) (a + 6))) (win s (a + 8) (a + 8 + numA s (a + 6) 2))) [], win s (a + 8 + numA s (a + 6) 2) e) else none) := by
  unfold one
  rw [tg_win h (by omega), if_pos (by omega)]
  simp only []
  rw [elP, if_neg ht, tk_win 2 h (by omega), if_pos (by omega)]
  simp only []
  by_cases hq : win s (a + 4) (a + 6) = SQ
  · rw [if_pos hq, if_pos (by exact hq), ze_win 2 h (by omega)]
    by_cases h0 : numA s (a + 6) 2 = 0
    · rw [if_pos ⟨by omega, h0⟩]
      simp only []
      rw [lg_N, nu_win 4 h (by omega)]
      by_cases h12 : a + 12 ≤ e
      · rw [if_pos (by omega), if_pos ⟨h0, h12⟩]
        simp only []
        show (match lgN 4294893789 (itP (elP m (n - 1))) (numA s (a + 8) 4) (win s (a + 12) e) with | none => none | some (its, r) => some (mkE n (tagA s a) (win s (a + 4) (a + 6)) [] its, r)) = _
        cases lgN 4294893789 (itP (elP m (n - 1))) (numA s (a + 8) 4) (win s (a + 12) e) <;> rfl
      · rw [if_neg (by omega), if_neg (fun e => h12 e.2)]
    · rw [if_neg (fun e => h0 e.2), if_neg (fun e => h0 e.1)]
  · rw [if_neg hq, if_neg (by exact hq)]
    unfold va
    rw [nu_win 2 h (by omega), if_pos (by omega)]
    simp only []
    by_cases hp : numA s (a + 6) 2 % 2 = 0
    · rw [if_pos (by exact hp)]
      rw [show a + 4 + 2 + 2 = a + 8 by omega, show a + 4 + 2 = a + 6 by omega, tk_win _ h h8]
      by_cases hk : a + 8 + numA s (a + 6) 2 ≤ e
      · rw [if_pos hk, if_pos ⟨hp, hk⟩]
      · rw [if_neg hk, if_neg (fun e => hk e.2)]
    · rw [if_neg (by exact hp), if_neg (fun e => hp e.1)]
/-- The pads at the end. -/
theorem trim_nil (p : UInt8) : trimB p [] = [] := rfl
theorem win_snoc {s : By} {a k : Nat} (h : k < s.length) (ha : a ≤ k) : win s a (k + 1) = win s a k ++ [s[k]] := by
  unfold win
  rw [List.take_succ_eq_append_getElem h, List.drop_append_of_le_length (by rw [List.length_take]; omega)]
theorem trim_pad {s : By} {a k : Nat} {p : UInt8} (h : k < s.length) (ha : a ≤ k) (hp : s[k] = p) : trimB p (win s a (k + 1)) = trimB p (win s a k) := by
  rw [win_snoc h ha]
  unfold trimB
  rw [List.reverse_append, List.reverse_singleton, List.singleton_append, List.dropWhile_cons, if_pos (by simp [hp])]
theorem trim_else {s : By} {a k : Nat} {p : UInt8} (h : k < s.length) (ha : a ≤ k) (hp : s[k] ≠ p) : trimB p (win s a (k + 1)) = win s a (k + 1) := by
  rw [win_snoc h ha]
  unfold trimB
  rw [List.reverse_append, List.reverse_singleton, List.singleton_append, List.dropWhile_cons, if_neg (by simpa using hp)]
  simp
theorem elP_mark (m n M : Nat) (h : M / 65536 = 65534) : ∀ r, elP m n M r = none := by
  intro r
  cases m with
  | zero => rfl
  | succ m => rw [elP, if_pos h]
theorem itP_mark {α : Type} (f : Nat → By → Option (α × By)) (r : By) : itP f 4294893789 r = none := by
  unfold itP
  exact if_neg (by decide)
theorem parse_set (n : Nat) (s : By) : parse n s = (setP false 4294893581 (elP (s.length + 1) n) s).map (·.1) := by
  unfold parse setP
  simp only [Bool.false_eq_true, if_false]
  cases toEnd (elP (s.length + 1) n) s.length s <;> rfl
end Go.Proofs.YtaokifbpakbgdaaGreatDoor

/- Package folioref, the document's own answer on data sets: numbers, tags and marks at a place. -/
namespace Go.Proofs.YtaokifbpakbgdaaGreatDoor
open Go.RowKit

theorem win_cons {s : By} {a e : Nat} (h : a < e) (he : e ≤ s.length) : win s a e = s[a] :: win s (a + 1) e := by
  unfold win
  rw [List.drop_eq_getElem_cons (by rw [List.length_take]; omega), List.getElem_take]
theorem rnum_any (w : World) (s : By) (at_ k : Nat) (hs : s.length ≤ 16384) (hk : k ≤ 4) (h : at_ + k ≤ s.length) :
    Calls Tryz.prog 262 #[.string (bs s), .int .i64 at_, .int .i64 k] w fun e w' => e = .returned (.int .i64 (numA s at_ k)) ∧ w' = w := by
  have hz := bs_size s
  go_enter Tryz.func262, Tryz.ntmps262
  go_wp2_with fail
  go_loop [7, 8] (fun n i => ∃ j : Nat, j ≤ k ∧ i = .int .i64 ((j : Int) - 1) ∧ n = .int .i64 (le (win s (at_ + j) (at_ + k)))) (fun _ i => (intOf i + 1).toNat)
  case atStart => exact ⟨k, Nat.le_refl _, rfl, by rw [win_self _ _ h]; rfl⟩
  case round =>
    obtain ⟨j, hj, rfl, rfl⟩ := hrel
    have hle := le_lt (win s (at_ + j) (at_ + k))
    rw [win_length h] at hle
    rcases Nat.eq_zero_or_pos j with rfl | hj0
    · go_wp2
      go_ret
      exact ⟨rfl, rfl⟩
    · obtain ⟨i, rfl⟩ : ∃ i, j = i + 1 := ⟨j - 1, by omega⟩
      have hle2 : le (win s (at_ + (i + 1)) (at_ + k)) < 16777216 := Nat.lt_of_lt_of_le hle (Nat.pow_le_pow_right (n := 256) (by decide) (show at_ + k - (at_ + (i + 1)) ≤ 3 by omega))
      clear hle
      have hstep := hid (show le (win s (at_ + i) (at_ + k)) = s[at_ + i].toNat + 256 * le (win s (at_ + (i + 1)) (at_ + k)) by rw [win_cons (by omega) h]; rfl)
      have hc := hid s[at_ + i].toNat_lt
      generalize le (win s (at_ + (i + 1)) (at_ + k)) = r at hle2 hstep
      have e1 : ((i + 1 : Nat) : Int) - 1 = (i : Int) := by omega
      rw [e1]
      have hlt : at_ + i < s.length := by omega
      have hlt2 : at_ + i < (bs s).size := by rw [bs_size]; omega
      go_wp2
      go_round
      case rel =>
        refine ⟨i, by omega, rfl, ?_⟩
        rw [hstep.out]
        have e2 : (bs s)[at_ + i]'hlt2 = s[at_ + i] := rfl
        simp only [e2]
        have hc2 := hc.out
        generalize s[at_ + i].toNat = c at hc2
        rw [w64 (c : Int) (by omega), w64 _ (by omega)]
        go_num
      case measure => simp [intOf]
theorem rtagAt_any (w : World) (s : By) (at_ : Nat) (hs : s.length ≤ 16384) (h : at_ + 4 ≤ s.length) :
    Calls Tryz.prog 261 #[.string (bs s), .int .i64 at_] w fun e w' => e = .returned (.int .i64 (tagA s at_)) ∧ w' = w := by
  have h1 := numA_lt (s := s) (a := at_) (k := 2) (by omega)
  have h2 := numA_lt (s := s) (a := at_ + 2) (k := 2) (by omega)
  rw [show (256 : Nat) ^ 2 = 65536 from rfl] at h1 h2
  go_enter Tryz.func261, Tryz.ntmps261
  go_wp2_with fail
  go_at_call 262
  refine (rnum_any w s at_ 2 hs (by decide) (by omega)).mono ?_
  rintro e w1 ⟨rfl, rfl⟩
  have ht := hid (show tagA s at_ = 65536 * numA s at_ 2 + numA s (at_ + 2) 2 from rfl)
  generalize hn1 : numA s at_ 2 = n1 at h1 ht
  clear hn1
  go_wp2_with fail
  go_at_call 262
  refine (rnum_any w1 s (at_ + 2) 2 hs (by decide) (by omega)).mono ?_
  rintro e w2 ⟨rfl, rfl⟩
  generalize hn2 : numA s (at_ + 2) 2 = n2 at h2 ht
  clear hn2
  go_wp2
  go_ret
  exact ⟨ret_int (by rw [ht.out]; omega), rfl⟩
theorem rmark_any (w : World) (s : By) (a z M : Nat) (hs : s.length ≤ 16384) (haz : a ≤ z) (hz : z ≤ s.length) :
    Calls Tryz.prog 218 #[.string (bs s), .int .i64 a, .int .i64 z, .int .i64 M] w fun e w' => e = .returned (.bool (markB M (win s a z))) ∧ w' = w := by
  rw [markB_win M hz haz]
  by_cases h8 : a + 8 ≤ z
  · have ht := tagA_lt (s := s) (a := a) (by omega)
    have hn := numA_lt (s := s) (a := a + 4) (k := 4) (by omega)
    rw [show (256 : Nat) ^ 4 = 4294967296 from rfl] at hn
    have hd : Hid (decide (a + 8 ≤ z ∧ tagA s a = M ∧ numA s (a + 4) 4 = 0) = (((tagA s a : Nat) : Int) == (M : Int) && ((numA s (a + 4) 4 : Nat) : Int) == 0)) := by
      unfold Hid
      rw [Bool.eq_iff_iff]
      simp only [decide_eq_true_eq, Bool.and_eq_true, beq_iff_eq]
      omega
    rw [hd.out]
    clear hd
    have c1 := rtagAt_any w s a hs (by omega)
    have c2 := rnum_any w s (a + 4) 4 hs (by decide) (by omega)
    generalize tagA s a = t at ht c1 ⊢
    generalize numA s (a + 4) 4 = k at hn c2 ⊢
    go_enter Tryz.func218, Tryz.ntmps218
    go_wp2_with fail
    go_at_call 261
    refine c1.mono ?_
    clear c1
    rintro e w1 ⟨rfl, rfl⟩
    go_wp2_with fail
    go_at_call 262
    refine c2.mono ?_
    clear c2
    rintro e w2 ⟨rfl, rfl⟩
    by_cases h1 : ((t : Int) == (M : Int)) = true
    · go_wp2
      all_goals go_ret
      all_goals exact ⟨by simp_all, rfl⟩
    · have h1' : ((t : Int) == (M : Int)) = false := by simpa using h1
      clear h1
      go_wp2
      go_ret
      exact ⟨by simp_all, rfl⟩
  · have hd : decide (a + 8 ≤ z ∧ tagA s a = M ∧ numA s (a + 4) 4 = 0) = false := decide_eq_false (fun e => h8 e.1)
    rw [hd]
    clear hd
    go_enter Tryz.func218, Tryz.ntmps218
    go_wp2
    go_ret
    exact ⟨rfl, rfl⟩
end Go.Proofs.YtaokifbpakbgdaaGreatDoor

/- Package folioref, the document's own answer on data sets: a set of elements and a sequence of items from a place on. -/
namespace Go.Proofs.YtaokifbpakbgdaaGreatDoor
open Go.RowKit

/-- How reading from a place on ends: what was read, and the place behind it; or -1. -/
def RefEnds {α : Type} (s : By) (z : Nat) (w : World) (o : Option (α × By)) (bad : Value → Prop) (P : World → Value → α → Prop) (e : Ending) (w' : World) : Prop :=
  Below w.heap.size w w' ∧ match o with
    | none => ∃ v, bad v ∧ e = .returned (.tuple #[v, .int .i64 (-1)])
    | some (x, r) => ∃ v b, r = win s b z ∧ b ≤ z ∧ e = .returned (.tuple #[v, .int .i64 (b : Nat)]) ∧ P w' v x
theorem RefEnds.bad {α : Type} {s : By} {z : Nat} {w w' : World} {o : Option (α × By)} {bad : Value → Prop} {P : World → Value → α → Prop} {e : Ending} {v : Value} (ho : o = none) (hu : Below w.heap.size w w') (hv : bad v) (he : e = .returned (.tuple #[v, .int .i64 (-1)])) : RefEnds s z w o bad P e w' := by
  subst ho
  exact ⟨hu, v, hv, he⟩
theorem RefEnds.ok {α : Type} {s : By} {z b : Nat} {w w' : World} {o : Option (α × By)} {bad : Value → Prop} {P : World → Value → α → Prop} {e : Ending} {v : Value} {x : α} {r : By} (ho : o = some (x, r)) (hu : Below w.heap.size w w') (hr : r = win s b z) (hb : b ≤ z) (he : e = .returned (.tuple #[v, .int .i64 (b : Nat)])) (hp : P w' v x) : RefEnds s z w o bad P e w' := by
  subst ho
  exact ⟨hu, v, b, hr, hb, he, hp⟩
theorem ret_vi {v : Value} {x y : Int} (h : x = y) : Ending.returned (.tuple #[v, .int .i64 x]) = Ending.returned (.tuple #[v, .int .i64 y]) := by rw [h]
def badE (v : Value) : Prop := ∃ t k u a l c, v = .agg #[.int .i64 t, .string k, .string u, .slice a l c]
def badN (v : Value) : Prop := v = .slice none 0 0
/-- What is asked of folioref's element, at a depth. -/
def ElR (m : Nat) : Prop := ∀ (n : Nat) (w : World) (s : By) (a z : Nat), s.length ≤ 16384 → a ≤ z → z ≤ s.length → z - a < m + 4 →
  Calls Tryz.prog 219 #[.string (bs s), .int .i64 a, .int .i64 z] w (RefEnds s z w (one (elP m n) (win s a z)) badE fun w' v x => ∃ bl, EV w' n v x bl ∧ New w w' bl)
theorem map_id_nil {α : Type} (o : Option (List α × By)) : o = o.map (fun p => ([] ++ p.1, p.2)) := by cases o <;> simp
theorem New.below {w0 w w' : World} {l : List Nat} (h : New w0 w l) (k : Below w.heap.size w w') : ∀ j ∈ l, w'.heap[j]? = w.heap[j]? := fun j hj => k.block j (h.2 j hj).2
theorem four_new (w : World) (T : TypeId) (c0 c1 c2 c3 : Value) (b : Nat) (hb : b = w.heap.size) : ∀ j u, [c0, c1, c2, c3][j]? = some u → (w.alloc (.cells #[c0, c1, c2, c3] T)).cell? ((⟨b, 0, none⟩ : Addr).add j) = some u := by
  subst hb
  exact four_cells w T c0 c1 c2 c3
set_option maxHeartbeats 1000000 in
set_option maxRecDepth 20000 in
theorem rset_any (m : Nat) (H : ElR m) (n : Nat) (w : World) (s : By) (a z : Nat) (o : Bool) (hs : s.length ≤ 16384) (haz : a ≤ z) (hz : z ≤ s.length) (hm : z - a < m + 4) :
    Calls Tryz.prog 160 #[.string (bs s), .int .i64 a, .int .i64 z, .bool o] w (RefEnds s z w (setP o 4294893581 (elP m n) (win s a z)) badN fun w' v l => ∃ bl, Ow w' n v l bl ∧ New w w' bl) := by
  obtain ⟨i0, hi, hz0, hz1, hz2⟩ := info_parts info_el
  have HI := hid hi
  clear hi
  have hE := elP_eats m n
  have hM := elP_mark m n 4294893581 (by decide)
  go_enter Tryz.func160, Tryz.ntmps160
  go_wp2_with fail
  go_loopw [1, 10] (fun at_ v wr => ∃ (b : Nat) (done : List (El n)) (xs : List Value) (cs : List Nat), at_ = .int .i64 b ∧ a ≤ b ∧ b ≤ z ∧ Hid (setP o 4294893581 (elP m n) (win s a z) = (setP o 4294893581 (elP m n) (win s b z)).map (fun p => (done ++ p.1, p.2))) ∧ Hid (done.length + (z - b) ≤ z - a) ∧ Hid (Below w.heap.size w wr) ∧
      Hid (wr.ownsRow 0 73 4 v done.length xs) ∧ Hid (Ls 4 (CE wr n) xs done cs) ∧ Hid (New w wr (v.ownBlock.toList ++ cs))) (fun at_ _ _ => z - (intOf at_).toNat)
  case atStart => exact ⟨a, [], [], [], rfl, Nat.le_refl _, haz, map_id_nil _, by unfold Hid; simp, Below.refl _ _, World.ownsRow_nil _ _ _ _, ⟨rfl, rfl⟩, New.nil _ _⟩
  case round =>
    obtain ⟨b, done, xs, cs, rfl, hab, hbz, hspec, hlen, hup, hown, hes, hnew⟩ := hrel
    have hwl := hid (win_length (s := s) (a := b) hz)
    have hcall := hid (H n wr s b z hs hbz hz (by omega))
    by_cases hfin : (o = true ∧ markB 4294893581 (win s b z) = true) ∨ (o = false ∧ b = z)
    · rcases hfin with ⟨rfl, hmk⟩ | ⟨rfl, rfl⟩
      · have h8 : b + 8 ≤ z := by
          rw [markB_win _ hz hbz] at hmk
          exact (of_decide_eq_true hmk).1
        have hsp := hid (show setP true 4294893581 (elP m n) (win s a z) = some (done, win s (b + 8) z) by rw [hspec.out, setP_mark hE hmk, win_drop]; simp)
        have c1 := rmark_any wr s b z 4294893581 hs hbz hz
        rw [hmk] at c1
        clear hmk hcall
        go_wp2_with fail
        go_at_call 218
        refine c1.mono ?_
        clear c1
        rintro e w1 ⟨rfl, rfl⟩
        go_wp2
        go_ret2
        refine RefEnds.ok hsp.out hup.out rfl h8 (ret_vi (by omega)) ⟨_, ?_, hnew.out⟩
        rw [Ow_eq]
        exact ⟨xs, cs, hown.out, hes.out, rfl⟩
      · have hsp := hid (show setP false 4294893581 (elP m n) (win s a b) = some (done, win s b b) by rw [hspec.out, win_self _ _ hz, setP_end]; simp)
        clear hcall
        go_wp2
        go_ret2
        refine RefEnds.ok hsp.out hup.out rfl (Nat.le_refl _) (ret_vi rfl) ⟨_, ?_, hnew.out⟩
        rw [Ow_eq]
        exact ⟨xs, cs, hown.out, hes.out, rfl⟩
    · have hcase : Hid ((o = true ∧ markB 4294893581 (win s b z) = false) ∨ (o = false ∧ win s b z ≠ [])) := by
        cases o with
        | true => exact Or.inl ⟨rfl, by simpa using hfin⟩
        | false =>
          refine Or.inr ⟨rfl, fun e => ?_⟩
          have h1 := hwl.out
          rw [e, List.length_nil] at h1
          exact hfin (Or.inr ⟨rfl, by omega⟩)
      have hnone := hid (fun h => setP_none (M := 4294893581) (f := elP m n) hE hcase.out h)
      have hsome := hid (fun x r h => setP_one (M := 4294893581) (f := elP m n) (x := x) (r := r) hE hM hcase.out h)
      have heats := hid (fun x r h => one_eats (f := elP m n) (s := win s b z) (x := x) (r := r) hE h)
      cases o
      case' true =>
        have c1 := rmark_any wr s b z 4294893581 hs hbz hz
        rw [show markB 4294893581 (win s b z) = false by simpa using hfin] at c1
        clear hfin
        go_wp2_with fail
        go_at_call 218
        refine c1.mono ?_
        clear c1
        rintro e w1 ⟨rfl, rfl⟩
      case' false =>
        have hne : ((b : Int) == (z : Int)) = false := by
          have : ¬ b = z := fun e => hfin (Or.inr ⟨rfl, e⟩)
          simp; omega
        clear hfin
      all_goals clear hcase
      all_goals
        go_wp2_with fail
        go_at_call 219
        refine hcall.out.mono ?_
        clear hcall
        generalize hone : one (elP m n) (win s b z) = oo at hnone hsome heats
        have hone' := hid hone
        clear hone
        cases oo with
        | none =>
          rintro e w2 ⟨u2, v, ⟨t', k', x', a', l', c', rfl⟩, rfl⟩
          have U2 := hid (hup.out.trans (u2.mono hup.out.size))
          have hX := Four.new w2 (.int .i64 t') (.string k') (.string x') (.slice a' l' c')
          have U3 := hid (Below.alloc U2.out U2.out.size (.cells #[.int .i64 t', .string k', .string x', .slice a' l' c'] 73))
          have hn0 := hid (hnone.out rfl)
          clear u2 hnone hsome heats
          go_wp2
          go_ret2
          exact RefEnds.bad (by rw [hspec.out, hn0.out]; rfl) U3.out rfl rfl
        | some q =>
          obtain ⟨x, r⟩ := q
          rintro e w2 ⟨u2, v, b2, hr, hb2, rfl, bl, ⟨t', k', x', a', l', c', rfl, hce⟩, hbl⟩
          have hs0 := hid (hsome.out x r rfl)
          have hl0 := heats.out x r rfl
          rw [hwl.out, hr, win_length hz] at hl0
          rw [hr] at hs0
          clear hnone hsome heats hr
          have u3 : Below w2.heap.size w2 (w2.alloc (.cells #[.int .i64 t', .string k', .string x', .slice a' l' c'] 73)) := Below.alloc (Below.refl _ _) (Nat.le_refl _) _
          have u13 := u2.trans (u3.mono u2.size)
          have hold := hnew.out.below u13
          have hown3 := hid (ownsRow_keep hown.out (fun j hj => hold j (List.mem_append_left _ hj)))
          have hes3 := hid (hes.out.mono (R' := CE (w2.alloc (.cells #[.int .i64 t', .string k', .string x', .slice a' l' c'] 73)) n) (fun c y b' hb' _ hr => hr.keep (fun j hj => hold j (List.mem_append_right _ (hb' j hj)))))
          have hce3 := hid (hce.keep (w' := w2.alloc (.cells #[.int .i64 t', .string k', .string x', .slice a' l' c'] 73)) (hbl.below u3))
          have hnew3 := hid ((New.add (hnew.out) hbl hup.out.size u2.size).more u3.size)
          have U3 := hid (hup.out.trans (u13.mono hup.out.size))
          have hX := (Four.new w2 (.int .i64 t') (.string k') (.string x') (.slice a' l' c')).cells
          obtain ⟨⟨x0, x1, x2, x3⟩, _⟩ := hX
          clear hold u13 u3 u2 hce hbl
          go_wp2_with (at_builtin; refine wpList_append_sep _ rfl _ _ 59 rfl 73 i0 _ 4 64 Tryz.underlying59 HI.out hz0 hz1 hz2 rfl (by decide) _ _ _ rfl (hown3.out.alloc _) ⟨w2.heap.size + 1, 0, none⟩ 1 1 [.int .i64 t', .string k', .string x', .slice a' l' c'] rfl rfl (four_new _ _ _ _ _ _ _ (by simp)) four_one (by unfold maxLen; have := hlen.out; omega) (by have := hlen.out; omega) ?_)
          intro v' w3 hown' hg hv
          have hz3 := hup.out.size
          have R := hid (Row.push (R := fun w => CE w n) (fun _ _ _ _ _ h k => h.keep k) hes3.out rfl hce3.out U3.out.size hnew3.out hown' hg hv)
          have U4 := hid ((UpB.of_below (b := w.heap.size) (Below.alloc U3.out U3.out.size (.cells #[.int .i64 t', .string k', .string x', .slice a' l' c'] 73))).grown hg (fun k hk => Or.inr ((hnew.out.2 k (List.mem_append_left _ (by rw [hk]; simp))).1)) |>.below (Nat.le_refl _) (Nat.le_refl _))
          clear hown' hg hv
          go_wp2
          go_roundw
          case rel =>
            refine ⟨b2, done ++ [x], _, _, rfl, by omega, hb2, ?_, ?_, U4, R.out.2.1, R.out.1, R.out.2.2⟩
            · unfold Hid
              rw [hspec.out, hs0.out]
              cases setP _ 4294893581 (elP m n) (win s b2 z) <;> simp
            · have := hlen.out
              unfold Hid
              rw [List.length_append, List.length_singleton]
              omega
          case measure => simp [intOf]; omega
end Go.Proofs.YtaokifbpakbgdaaGreatDoor
