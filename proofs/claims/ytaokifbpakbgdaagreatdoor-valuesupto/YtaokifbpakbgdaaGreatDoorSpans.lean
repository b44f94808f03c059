/-
  Ranges of dates and times: parted at each - or cut at the first, by bytes or by numbers: the same (no program).
-/
import Derived.Test.YtaokifbpakbgdaaGreatDoorRef6
namespace Go.Proofs.YtaokifbpakbgdaaGreatDoor

theorem spl_one {c : UInt8} {l a : Bs} (h : spl c l = [a]) : l = a ∧ c ∉ l := by
  rcases index_one c l with ⟨_, h2⟩ | ⟨i, _, _, h3, h4⟩
  · rw [spl_none c l h2] at h
    exact ⟨by simpa using h, h2⟩
  · rw [h3, spl_hit c _ _ h4] at h
    have hne := spl_ne c (l.drop (i + 1))
    simp at h
    exact absurd h.2 hne
theorem spl_two {c : UInt8} {l a b : Bs} (h : spl c l = [a, b]) : l = a ++ c :: b ∧ c ∉ a ∧ c ∉ b := by
  rcases index_one c l with ⟨_, h2⟩ | ⟨i, _, _, h3, h4⟩
  · rw [spl_none c l h2] at h; simp at h
  · have h' := h
    rw [h3, spl_hit c _ _ h4] at h'
    simp only [List.cons.injEq] at h'
    obtain ⟨e1, e2⟩ := h'
    obtain ⟨e3, e4⟩ := spl_one e2
    refine ⟨by rw [← e1, ← e3]; exact h3, by rw [← e1]; exact h4, by rw [← e3]; exact e4⟩
theorem spl_many {c : UInt8} {l : Bs} (h1 : (spl c l).length ≠ 1) (h2 : (spl c l).length ≠ 2) : ∃ a b, l = a ++ c :: b ∧ c ∉ a ∧ c ∈ b := by
  rcases index_one c l with ⟨_, k2⟩ | ⟨i, _, _, h3, h4⟩
  · rw [spl_none c l k2] at h1; simp at h1
  · refine ⟨_, _, h3, h4, ?_⟩
    by_cases hb : c ∈ l.drop (i + 1)
    · exact hb
    · exfalso
      rw [h3, spl_hit c _ _ h4, spl_none c _ hb] at h2
      simp at h2
def DT (k : Bs) : Prop := k = [68, 65] ∨ k = [84, 77]
theorem DT.kind {k : Bs} (h : DT k) : IsKind k := by rcases h with rfl | rfl <;> simp [IsKind]
theorem rval_digits {k l : Bs} (hk : DT k) (h : rval k l = true) : digitsB l = true := by
  rcases hk with rfl | rfl
  · have h' : dateB l = true := h
    unfold dateB at h'
    simp only [Bool.and_eq_true] at h'
    exact h'.1.1.2
  · have h' : timeB l = true := h
    unfold timeB at h'
    simp only [Bool.and_eq_true] at h'
    exact h'.1.1.1.2
theorem chkF_rval {k l : Bs} (hk : DT k) : chkF k l = 0 ↔ rval k l = true := by
  rw [rval_chk k l hk.kind]
  cases rval k l <;> simp
theorem chk_rval {k l : Bs} (hk : DT k) : chk k l = 0 ↔ (l = [] ∨ rval k l = true) := by
  unfold chk
  by_cases e : l = []
  · subst e
    have : chkF k [] = 6 := by rcases hk with rfl | rfl <;> decide
    rw [if_pos ⟨this, rfl⟩]; simp
  · rw [if_neg (fun c => e c.2), chkF_rval hk]; simp [e]
theorem pat_no {k p : Bs} (hk : DT k) (hs : rval k p = false) (hl : (spl 45 p).length ≠ 2) : isPatB k p = false := by
  rw [pat_span k p hk]
  by_cases h1 : (spl 45 p).length = 1
  · obtain ⟨a, ha⟩ := List.length_eq_one_iff.1 h1
    obtain ⟨rfl, hn⟩ := spl_one ha
    unfold spanB
    rw [cut_miss _ hn]
    have : ¬ chkF k p = 0 := fun h => by rw [(chkF_rval hk).1 h] at hs; cases hs
    simp [this]
  · obtain ⟨a, b, rfl, ha, hb⟩ := spl_many h1 hl
    unfold spanB
    rw [cut_hit a b ha]
    have : ¬ chk k b = 0 := fun h => by
      rcases (chk_rval hk).1 h with h | h
      · subst h; simp at hb
      · exact no_dash b (rval_digits hk h) hb
    simp [this]
theorem pat_two {k p a b : Bs} (hk : DT k) (h : spl 45 p = [a, b]) : isPatB k p = (!(decide (a = []) && decide (b = [])) && (decide (a = []) || rval k a) && (decide (b = []) || rval k b)) := by
  obtain ⟨rfl, ha, hb⟩ := spl_two h
  rw [pat_span k _ hk]
  unfold spanB
  rw [cut_hit a b ha]
  have e1 : decide (a ++ 45 :: b = [45]) = (decide (a = []) && decide (b = [])) := by
    cases a <;> cases b <;> simp
  have e2 : ∀ l, decide (chk k l = 0) = (decide (l = []) || rval k l) := fun l => by
    rw [Bool.eq_iff_iff]; simp [chk_rval hk]
  simp only [if_true, e1, e2]
theorem fits_two_date {p a b v : Bs} (h : spl 45 p = [a, b]) (hv : v ≠ []) : fitsB [68, 65] p v = withinB a b v := by
  obtain ⟨rfl, ha, _⟩ := spl_two h
  rw [fits_date _ _ hv]
  unfold fitsDateB
  rw [cut_hit a b ha]; rfl
theorem fits_two_time {p a b v : Bs} (h : spl 45 p = [a, b]) (hv : v ≠ []) : fitsB [84, 77] p v = withinB (filledB a [48, 48]) (filledB b [53, 57]) (filledB v [48, 48]) := by
  obtain ⟨rfl, ha, _⟩ := spl_two h
  rw [fits_time _ _ hv]
  unfold fitsTimeB
  rw [cut_hit a b ha]; rfl
theorem fits_empty {k p : Bs} (hk : DT k) : fitsB k p [] = false := by
  rcases hk with rfl | rfl <;> rfl
/- Dates by their numbers. -/
theorem date_rdig {l : Bs} (h : dateB l = true) : l.length = 8 ∧ digitsB l = true ∧ rdig l = num l := by
  unfold dateB at h
  simp only [Bool.and_eq_true, decide_eq_true_eq] at h
  refine ⟨h.1.1.1, h.1.1.2, ?_⟩
  unfold rdig
  rw [if_pos ⟨by omega, by omega, h.1.1.2⟩]
theorem le_date {a b : Bs} (ha : dateB a = true) (hb : dateB b = true) : leB a b = decide (rdig a ≤ rdig b) := by
  obtain ⟨l1, d1, r1⟩ := date_rdig ha
  obtain ⟨l2, d2, r2⟩ := date_rdig hb
  rw [leB_num a b (by omega) d1 d2, r1, r2]
/- Times by their seconds. -/
def secP (l : Bs) (j : Nat) (f : Int) : Int := if j < l.length then num ((l.drop j).take 2) else f
def sq (l : Bs) (f : Int) : Nat → Int
  | 0 => 0
  | m + 1 => sq l f m * 60 + secP l (2 * m) f
theorem time_facts {l : Bs} (h : timeB l = true) : (l.length = 2 ∨ l.length = 4 ∨ l.length = 6) ∧ digitsB l = true ∧ num (l.take 2) ≤ 23 ∧ num ((l.drop 2).take 2) ≤ 59 ∧ num ((l.drop 4).take 2) ≤ 59 := by
  unfold timeB at h
  simp only [Bool.and_eq_true, Bool.or_eq_true, decide_eq_true_eq] at h
  exact ⟨by omega, h.1.1.1.2, h.1.1.2, h.1.2, h.2⟩
theorem fill_parts {l m : Bs} {f : Int} (h : timeB l = true) (hm : m.length = 2) (hd : digitsB m = true) (hf : num m = f) (h0 : 0 ≤ f) (h59 : f ≤ 59) :
    ∃ a b c : Nat, sq l f 3 = 3600 * a + 60 * b + c ∧ num (filledB l m) = 10000 * a + 100 * b + c ∧ b < 60 ∧ c < 60 ∧ (filledB l m).length = 6 ∧ digitsB (filledB l m) = true := by
  obtain ⟨hl, hdg, h1, h2, h3⟩ := time_facts h
  have b0 := num_bd _ (digits_take l 2 hdg)
  have b2 := num_bd _ (digits_take _ 2 (digits_drop l 2 hdg))
  have b4 := num_bd _ (digits_take _ 2 (digits_drop l 4 hdg))
  have hsq : sq l f 3 = (secP l 0 f * 60 + secP l 2 f) * 60 + secP l 4 f := by simp [sq]
  have p0 : secP l 0 f = num (l.take 2) := by unfold secP; rw [if_pos (by omega), List.drop_zero]
  have e : l = l.take 2 ++ ((l.drop 2).take 2 ++ (l.drop 4).take 2) := by
    conv => lhs; rw [← List.take_append_drop 2 l, ← List.take_append_drop 2 (l.drop 2), List.drop_drop]
    congr 2
    rw [List.take_of_length_le (by simp; omega)]
  have t2 : (l.take 2).length = 2 := by simp; omega
  rcases hl with hl | hl | hl
  · have q2 : secP l 2 f = f := by unfold secP; rw [if_neg (by omega)]
    have q4 : secP l 4 f = f := by unfold secP; rw [if_neg (by omega)]
    have hfl : filledB l m = l ++ m ++ m := by
      unfold filledB
      rw [fill_go m 5 l ⟨fun x => by rw [x] at hl; simp at hl, by omega⟩, fill_go m 4 _ ⟨by simp; intro x; rw [x] at hl; simp at hl, by simp; omega⟩, fill_stop m 4 _ (by simp; omega)]
    have e2 : l.take 2 = l := List.take_of_length_le (by omega)
    refine ⟨(num (l.take 2)).toNat, f.toNat, f.toNat, ?_, ?_, by omega, by omega, ?_, ?_⟩
    · rw [hsq, p0, q2, q4]; omega
    · rw [hfl, num_append, num_append, hm, hf, e2]; rw [e2] at b0; omega
    · rw [hfl]; simp [hl, hm]
    · rw [hfl, digitsB_append, digitsB_append]; exact ⟨⟨hdg, hd⟩, hd⟩
  · have q2 : secP l 2 f = num ((l.drop 2).take 2) := by unfold secP; rw [if_pos (by omega)]
    have q4 : secP l 4 f = f := by unfold secP; rw [if_neg (by omega)]
    have hfl : filledB l m = l ++ m := by
      unfold filledB
      rw [fill_go m 5 l ⟨fun x => by rw [x] at hl; simp at hl, by omega⟩, fill_stop m 5 _ (by simp; omega)]
    have e3 : (l.drop 4).take 2 = [] := by rw [List.drop_eq_nil_of_le (by omega)]; rfl
    rw [e3, List.append_nil] at e
    have l3 : ((l.drop 2).take 2).length = 2 := by simp; omega
    refine ⟨(num (l.take 2)).toNat, (num ((l.drop 2).take 2)).toNat, f.toNat, ?_, ?_, by omega, by omega, ?_, ?_⟩
    · rw [hsq, p0, q2, q4]; omega
    · rw [hfl, num_append, hm, hf]
      have : num l = num (l.take 2) * 10 ^ 2 + num ((l.drop 2).take 2) := by
        conv => lhs; rw [e]
        rw [num_append, l3]
      rw [this]; omega
    · rw [hfl]; simp [hl, hm]
    · rw [hfl, digitsB_append]; exact ⟨hdg, hd⟩
  · have q2 : secP l 2 f = num ((l.drop 2).take 2) := by unfold secP; rw [if_pos (by omega)]
    have q4 : secP l 4 f = num ((l.drop 4).take 2) := by unfold secP; rw [if_pos (by omega)]
    have hfl : filledB l m = l := filled6 l m hl
    have l3 : ((l.drop 2).take 2).length = 2 := by simp; omega
    have l4 : ((l.drop 4).take 2).length = 2 := by simp; omega
    refine ⟨(num (l.take 2)).toNat, (num ((l.drop 2).take 2)).toNat, (num ((l.drop 4).take 2)).toNat, ?_, ?_, by omega, by omega, ?_, ?_⟩
    · rw [hsq, p0, q2, q4]; omega
    · rw [hfl]
      have : num l = num (l.take 2) * 10 ^ 4 + (num ((l.drop 2).take 2) * 10 ^ 2 + num ((l.drop 4).take 2)) := by
        conv => lhs; rw [e]
        rw [num_append, num_append, List.length_append, l3, l4]
      rw [this]; omega
    · rw [hfl]; exact hl
    · rw [hfl]; exact hdg
theorem lex_sec' (h m s h' m' s' : Nat) (h1 : m < 60) (h2 : s < 60) (k1 : m' < 60) (k2 : s' < 60) :
    (10000 * h + 100 * m + s : Int) ≤ 10000 * h' + 100 * m' + s' ↔ (3600 * h + 60 * m + s : Int) ≤ 3600 * h' + 60 * m' + s' := by
  rcases Nat.lt_trichotomy h h' with a | a | a <;> rcases Nat.lt_trichotomy m m' with b | b | b <;> omega
theorem le_time {a b m m' : Bs} {f f' : Int} (ha : timeB a = true) (hb : timeB b = true) (hm : m.length = 2) (hd : digitsB m = true) (hf : num m = f) (h0 : 0 ≤ f) (h59 : f ≤ 59)
    (hm' : m'.length = 2) (hd' : digitsB m' = true) (hf' : num m' = f') (h0' : 0 ≤ f') (h59' : f' ≤ 59) : leB (filledB a m) (filledB b m') = decide (sq a f 3 ≤ sq b f' 3) := by
  obtain ⟨x, y, z, e1, e2, e3, e4, e5, e6⟩ := fill_parts ha hm hd hf h0 h59
  obtain ⟨x', y', z', g1, g2, g3, g4, g5, g6⟩ := fill_parts hb hm' hd' hf' h0' h59'
  rw [leB_num _ _ (by omega) e6 g6, e1, e2, g1, g2]
  exact decide_eq_decide.2 (lex_sec' _ _ _ _ _ _ e3 e4 g3 g4)
theorem filled_ne {l m : Bs} {f : Int} (h : timeB l = true) (hm : m.length = 2) (hd : digitsB m = true) (hf : num m = f) (h0 : 0 ≤ f) (h59 : f ≤ 59) : filledB l m ≠ [] := fun e => by
  obtain ⟨_, _, _, _, _, _, _, e5, _⟩ := fill_parts h hm hd hf h0 h59
  rw [e] at e5; simp at e5
end Go.Proofs.YtaokifbpakbgdaaGreatDoor
