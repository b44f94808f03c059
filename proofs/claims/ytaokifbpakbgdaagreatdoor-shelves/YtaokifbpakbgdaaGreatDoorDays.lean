/-
  Dates and times written in digits: they are values of their kinds, and their order is that of their numbers (no program).
-/
import Derived.Test.YtaokifbpakbgdaaGreatDoorGlob
namespace Go.Proofs.YtaokifbpakbgdaaGreatDoor
open Go.RowKit

def dgs : Nat → Nat → Bs
  | 0, _ => []
  | k + 1, n => UInt8.ofNat (48 + n / 10 ^ k % 10) :: dgs k n
/-- A date of these numbers, and how far it is along. -/
def dateOf (y m d : Nat) : Bs := dgs 4 y ++ dgs 2 m ++ dgs 2 d
def timeOf (n : Nat) : Bs := dgs 2 (n / 3600) ++ dgs 2 (n / 60 % 60) ++ dgs 2 (n % 60)
theorem dgs_len : ∀ (k n : Nat), (dgs k n).length = k
  | 0, _ => rfl
  | k + 1, n => by rw [dgs, List.length_cons, dgs_len k n]
/-- What the four patterns answer. -/
def Between (k a b c : Bs) (af bf : Bool) : Prop :=
  (matchV k (a ++ [45] ++ b) c = (af && bf) ∧ matchE k (a ++ [45] ++ b) c = 0) ∧ (matchV k (a ++ [45]) c = af ∧ matchE k (a ++ [45]) c = 0) ∧
  (matchV k ([45] ++ b) c = bf ∧ matchE k ([45] ++ b) c = 0) ∧ (matchV k a a = true ∧ matchE k a a = 0)

theorem fold_num : ∀ (l : Bs) (a : Int), l.foldl (fun n c => 10 * n + (nb c - 48)) a = a * 10 ^ l.length + num l
  | [], a => by simp [num]
  | c :: l, a => by
    have h1 := fold_num l (10 * a + (nb c - 48))
    have h2 := fold_num l (10 * 0 + (nb c - 48))
    have e : num (c :: l) = l.foldl (fun n c => 10 * n + (nb c - 48)) (10 * 0 + (nb c - 48)) := rfl
    rw [List.foldl_cons, h1, e, h2, List.length_cons, Int.pow_succ, Int.add_mul, Int.add_mul, Int.mul_comm (10 ^ l.length) 10, ← Int.mul_assoc, Int.mul_comm a 10]
    omega
theorem num_append (a b : Bs) : num (a ++ b) = num a * 10 ^ b.length + num b := by
  unfold num
  rw [List.foldl_append]
  exact fold_num b _
theorem num_cons (c : UInt8) (l : Bs) : num (c :: l) = (nb c - 48) * 10 ^ l.length + num l := by
  have := num_append [c] l
  simpa [num] using this
theorem digitsB_cons (c : UInt8) (l : Bs) : digitsB (c :: l) = true ↔ dg c = true ∧ digitsB l = true := by simp [digitsB]
theorem digitsB_append (a b : Bs) : digitsB (a ++ b) = true ↔ digitsB a = true ∧ digitsB b = true := by simp [digitsB]
theorem less_num : ∀ (a b : Bs), a.length = b.length → digitsB a = true → digitsB b = true → (Op.bytesLess a b = true ↔ num a < num b) ∧ (a = b ↔ num a = num b)
  | [], [], _, _, _ => by simp [Op.bytesLess]
  | x :: a, y :: b, hl, ha, hb => by
    rw [digitsB_cons] at ha hb
    have hl' : a.length = b.length := by simpa using hl
    obtain ⟨i1, i2⟩ := less_num a b hl' ha.2 hb.2
    have ba := num_bd a ha.2
    have bb := num_bd b hb.2
    rw [num_cons, num_cons, hl']
    rw [hl'] at ba
    generalize (10 : Int) ^ b.length = T at ba bb ⊢
    have hx := UInt8.toNat_inj (a := x) (b := y)
    have hlt : x < y ↔ nb x < nb y := by rw [UInt8.lt_iff_toNat_lt]; unfold nb; omega
    have heq : x = y ↔ nb x = nb y := by rw [← hx]; unfold nb; omega
    rcases Int.lt_trichotomy (nb x) (nb y) with h | h | h
    · obtain ⟨d, hd⟩ : ∃ d : Nat, nb y - 48 = (nb x - 48) + 1 + d := ⟨(nb y - nb x - 1).toNat, by omega⟩
      have hT : (nb y - 48) * T = (nb x - 48) * T + T + d * T := by rw [hd, Int.add_mul, Int.add_mul, Int.one_mul]
      have hd0 : 0 ≤ (d : Int) * T := Int.mul_nonneg (by omega) (by omega)
      have hne : ¬ x = y := fun e => by rw [heq] at e; omega
      refine ⟨?_, ?_⟩
      · simp only [Op.bytesLess, decide_eq_true (hlt.2 h), Bool.true_or, true_iff]; omega
      · simp only [List.cons.injEq, hne, false_and, false_iff]; omega
    · have e : x = y := heq.2 h
      subst e
      refine ⟨?_, ?_⟩
      · simp only [Op.bytesLess, UInt8.lt_irrefl, decide_false, Bool.false_or, BEq.rfl, Bool.true_and]
        rw [i1]; omega
      · simp only [List.cons.injEq, true_and]
        rw [i2]; omega
    · obtain ⟨d, hd⟩ : ∃ d : Nat, nb x - 48 = (nb y - 48) + 1 + d := ⟨(nb x - nb y - 1).toNat, by omega⟩
      have hT : (nb x - 48) * T = (nb y - 48) * T + T + d * T := by rw [hd, Int.add_mul, Int.add_mul, Int.one_mul]
      have hd0 : 0 ≤ (d : Int) * T := Int.mul_nonneg (by omega) (by omega)
      have hne : ¬ x = y := fun e => by rw [heq] at e; omega
      have hnl : ¬ x < y := fun e => by rw [hlt] at e; omega
      have hb : (x == y) = false := by simpa using hne
      refine ⟨?_, ?_⟩
      · simp only [Op.bytesLess, decide_eq_false hnl, hb, Bool.false_or, Bool.false_and, Bool.false_eq_true, false_iff]; omega
      · simp only [List.cons.injEq, hne, false_and, false_iff]; omega
theorem leB_num (a b : Bs) (hl : a.length = b.length) (ha : digitsB a = true) (hb : digitsB b = true) : leB a b = decide (num a ≤ num b) := by
  obtain ⟨h1, h2⟩ := less_num a b hl ha hb
  rw [Bool.eq_iff_iff]
  simp only [leB, Bool.or_eq_true, beq_iff_eq, decide_eq_true_eq]
  rw [h1, h2]; omega
theorem dgs_digits : ∀ (k n : Nat), digitsB (dgs k n) = true
  | 0, _ => rfl
  | k + 1, n => by
    rw [dgs, digitsB_cons]
    refine ⟨?_, dgs_digits k n⟩
    rw [dg_iff]
    have : (UInt8.ofNat (48 + n / 10 ^ k % 10)).toNat = 48 + n / 10 ^ k % 10 := by rw [UInt8.toNat_ofNat']; omega
    unfold nb; rw [this]; omega
theorem dgs_num : ∀ (k n : Nat), num (dgs k n) = ((n % 10 ^ k : Nat) : Int)
  | 0, n => by simp [dgs, num, Nat.mod_one]
  | k + 1, n => by
    rw [dgs, num_cons, dgs_num k n, dgs_len]
    have e : (UInt8.ofNat (48 + n / 10 ^ k % 10)).toNat = 48 + n / 10 ^ k % 10 := by rw [UInt8.toNat_ofNat']; omega
    unfold nb
    rw [e, Nat.mod_pow_succ]
    have e2 : ((48 + n / 10 ^ k % 10 : Nat) : Int) - 48 = ((n / 10 ^ k % 10 : Nat) : Int) := by omega
    have e3 : (10 : Int) ^ k = ((10 ^ k : Nat) : Int) := by simp
    rw [e2, e3, ← Int.natCast_mul, ← Int.natCast_add, Nat.add_comm, Nat.mul_comm]

theorem no_dash (l : Bs) (h : digitsB l = true) : (45 : UInt8) ∉ l := fun hm => by
  unfold digitsB at h
  rw [List.all_eq_true] at h
  have := h 45 hm
  revert this; decide
theorem cut_hit (a b : Bs) (h : (45 : UInt8) ∉ a) : cutB (a ++ 45 :: b) = (a, b, true) := by
  unfold cutB Lib.cut
  rcases index_one 45 (a ++ 45 :: b) with ⟨_, h2⟩ | ⟨i, h1, h2, h3, h4⟩
  · exact absurd (by simp) h2
  · have hi : i = a.length := by
      rcases Nat.lt_trichotomy i a.length with hl | hl | hl
      · exfalso
        have e1 : (a ++ 45 :: b)[i]? = some 45 := by
          rw [h3, List.getElem?_append_right (by simp; omega)]
          have : i - (List.take i (a ++ 45 :: b)).length = 0 := by simp; omega
          rw [this]; rfl
        rw [List.getElem?_append_left hl] at e1
        exact h (List.mem_of_getElem? e1)
      · exact hl
      · exfalso
        apply h4
        rw [List.take_append]
        simp
        right
        obtain ⟨d, hd⟩ : ∃ d, i - a.length = d + 1 := ⟨i - a.length - 1, by omega⟩
        rw [hd]; simp
    subst hi
    rw [if_pos (by omega), h1]
    simp
theorem cut_miss (a : Bs) (h : (45 : UInt8) ∉ a) : cutB a = (a, [], false) := by
  unfold cutB Lib.cut
  rcases index_one 45 a with ⟨h1, _⟩ | ⟨i, h1, h2, h3, h4⟩
  · rw [if_neg (by omega)]
  · exact absurd (by rw [h3]; simp) h
/-- Two kinds: dates and times. -/
theorem chk_nil (k : Bs) (hk : k = [68, 65] ∨ k = [84, 77]) : chk k [] = 0 := by rcases hk with rfl | rfl <;> decide
theorem chk_of {k l : Bs} (h : chkF k l = 0) : chk k l = 0 := by unfold chk; rw [if_neg (by rw [h]; omega), h]
theorem pat_span (k p : Bs) (hk : k = [68, 65] ∨ k = [84, 77]) : isPatB k p = spanB k p := by
  unfold isPatB; rcases hk with rfl | rfl <;> rfl
theorem span_dash (k a b : Bs) (ha : (45 : UInt8) ∉ a) (ca : chk k a = 0) (cb : chk k b = 0) (hn : ¬ (a ++ 45 :: b) = [45]) : spanB k (a ++ 45 :: b) = true := by
  unfold spanB
  rw [cut_hit a b ha]
  simp [ca, cb, hn]
theorem span_one (k a : Bs) (ha : (45 : UInt8) ∉ a) (ca : chkF k a = 0) : spanB k a = true := by
  unfold spanB
  rw [cut_miss a ha]
  simp [ca]
theorem match_fit (k p v : Bs) (hc : chk k v = 0) (hp : p ≠ []) (hi : isPatB k p = true) : matchV k p v = fitsB k p v ∧ matchE k p v = 0 := by
  refine ⟨?_, ?_⟩
  · unfold matchV; rw [if_neg (fun h => h hc), if_neg hp, hi]; rfl
  · unfold matchE; rw [if_neg (fun h => h hc), if_neg hp, hi]; rfl
theorem fits_date (p v : Bs) (hv : v ≠ []) : fitsB [68, 65] p v = fitsDateB p v := by
  unfold fitsB
  rw [if_neg (by decide), if_neg (by decide), if_neg hv, if_pos rfl]
theorem fits_time (p v : Bs) (hv : v ≠ []) : fitsB [84, 77] p v = fitsTimeB p v := by
  unfold fitsB
  rw [if_neg (by decide), if_neg (by decide), if_neg hv, if_neg (by decide), if_pos rfl]
theorem leB_nil (v : Bs) (h : v ≠ []) : leB [] v = true := by
  cases v with
  | nil => exact absurd rfl h
  | cons x v => rfl
theorem between_date (a b c : Bs) (ha : chkF [68, 65] a = 0) (hb : chkF [68, 65] b = 0) (hc : chkF [68, 65] c = 0) (da : digitsB a = true) (na : a ≠ []) (nb' : b ≠ []) (nc : c ≠ []) :
    Between [68, 65] a b c (leB a c) (leB c b) := by
  have xa := no_dash a da
  have hk : ([68, 65] : Bs) = [68, 65] ∨ ([68, 65] : Bs) = [84, 77] := Or.inl rfl
  refine ⟨?_, ?_, ?_, ?_⟩
  · rw [List.append_assoc, List.singleton_append]
    have := match_fit [68, 65] (a ++ 45 :: b) c (chk_of hc) (by simp) (by rw [pat_span _ _ hk]; exact span_dash _ a b xa (chk_of ha) (chk_of hb) (by cases a with | nil => exact absurd rfl na | cons x a => simp))
    refine ⟨?_, this.2⟩
    rw [this.1, fits_date _ _ nc, fitsDateB, cut_hit a b xa]
    simp [withinB, nb']
  · have := match_fit [68, 65] (a ++ 45 :: []) c (chk_of hc) (by simp) (by rw [pat_span _ _ hk]; exact span_dash _ a [] xa (chk_of ha) (chk_nil _ hk) (by cases a with | nil => exact absurd rfl na | cons x a => simp))
    refine ⟨?_, this.2⟩
    rw [this.1, fits_date _ _ nc, fitsDateB, cut_hit a [] xa]
    simp [withinB]
  · have := match_fit [68, 65] ([] ++ 45 :: b) c (chk_of hc) (by simp) (by rw [pat_span _ _ hk]; exact span_dash _ [] b (by simp) (chk_nil _ hk) (chk_of hb) (by simpa using nb'))
    refine ⟨?_, this.2⟩
    rw [show ([45] ++ b : Bs) = [] ++ 45 :: b from rfl, this.1, fits_date _ _ nc, fitsDateB, cut_hit [] b (by simp)]
    simp [withinB, nb', leB_nil c nc]
  · have := match_fit [68, 65] a a (chk_of ha) na (by rw [pat_span _ _ hk]; exact span_one _ a xa ha)
    refine ⟨?_, this.2⟩
    rw [this.1, fits_date _ _ na, fitsDateB, cut_miss a xa]
    simp
theorem filled6 (a m : Bs) (h : a.length = 6) : filledB a m = a := fill_stop _ _ _ (fun e => by omega)
theorem filled_nil (m : Bs) : filledB [] m = [] := fill_stop _ _ _ (fun e => e.1 rfl)
theorem between_time (a b c : Bs) (ha : chkF [84, 77] a = 0) (hb : chkF [84, 77] b = 0) (hc : chkF [84, 77] c = 0) (da : digitsB a = true) (la : a.length = 6) (lb : b.length = 6) (lc : c.length = 6) :
    Between [84, 77] a b c (leB a c) (leB c b) := by
  have xa := no_dash a da
  have na : a ≠ [] := fun e => by rw [e] at la; cases la
  have nb' : b ≠ [] := fun e => by rw [e] at lb; cases lb
  have nc : c ≠ [] := fun e => by rw [e] at lc; cases lc
  have hk : ([84, 77] : Bs) = [68, 65] ∨ ([84, 77] : Bs) = [84, 77] := Or.inr rfl
  refine ⟨?_, ?_, ?_, ?_⟩
  · rw [List.append_assoc, List.singleton_append]
    have := match_fit [84, 77] (a ++ 45 :: b) c (chk_of hc) (by simp) (by rw [pat_span _ _ hk]; exact span_dash _ a b xa (chk_of ha) (chk_of hb) (by cases a with | nil => exact absurd rfl na | cons x a => simp))
    refine ⟨?_, this.2⟩
    rw [this.1, fits_time _ _ nc, fitsTimeB, cut_hit a b xa]
    simp [withinB, nb', filled6 a _ la, filled6 b _ lb, filled6 c _ lc]
  · have := match_fit [84, 77] (a ++ 45 :: []) c (chk_of hc) (by simp) (by rw [pat_span _ _ hk]; exact span_dash _ a [] xa (chk_of ha) (chk_nil _ hk) (by cases a with | nil => exact absurd rfl na | cons x a => simp))
    refine ⟨?_, this.2⟩
    rw [this.1, fits_time _ _ nc, fitsTimeB, cut_hit a [] xa]
    simp [withinB, filled6 a _ la, filled6 c _ lc, filled_nil]
  · have := match_fit [84, 77] ([] ++ 45 :: b) c (chk_of hc) (by simp) (by rw [pat_span _ _ hk]; exact span_dash _ [] b (by simp) (chk_nil _ hk) (chk_of hb) (by simpa using nb'))
    refine ⟨?_, this.2⟩
    rw [show ([45] ++ b : Bs) = [] ++ 45 :: b from rfl, this.1, fits_time _ _ nc, fitsTimeB, cut_hit [] b (by simp)]
    simp [withinB, nb', leB_nil c nc, filled6 b _ lb, filled6 c _ lc, filled_nil]
  · have := match_fit [84, 77] a a (chk_of ha) na (by rw [pat_span _ _ hk]; exact span_one _ a xa ha)
    refine ⟨?_, this.2⟩
    rw [this.1, fits_time _ _ na, fitsTimeB, cut_miss a xa]
    simp [Lib.hasPrefix]
/- Dates. -/
theorem date_len (y m d : Nat) : (dateOf y m d).length = 8 := by simp [dateOf, dgs_len]
theorem date_dig (y m d : Nat) : digitsB (dateOf y m d) = true := by
  unfold dateOf; rw [digitsB_append, digitsB_append]; exact ⟨⟨dgs_digits _ _, dgs_digits _ _⟩, dgs_digits _ _⟩
theorem date_num (y m d : Nat) (hy : y ≤ 9999) (hm : m ≤ 99) (hd : d ≤ 99) : num (dateOf y m d) = 10000 * y + 100 * m + d := by
  unfold dateOf
  rw [num_append, num_append, dgs_num, dgs_num, dgs_num, dgs_len, dgs_len, Nat.mod_eq_of_lt (by omega), Nat.mod_eq_of_lt (by omega), Nat.mod_eq_of_lt (by omega)]
  omega
theorem date_chk (y m d : Nat) (hy : y ≤ 9999) (hm1 : 1 ≤ m) (hm : m ≤ 12) (hd1 : 1 ≤ d) (hd : d ≤ 28) : chkF [68, 65] (dateOf y m d) = 0 := by
  have e : dateB (dateOf y m d) = true := by
    have h4 : (dateOf y m d).take 4 = dgs 4 y := by
      unfold dateOf; rw [List.append_assoc, List.take_append_of_le_length (by rw [dgs_len]; omega), List.take_of_length_le (by rw [dgs_len]; omega)]
    have h6 : (dateOf y m d).drop 6 = dgs 2 d := by
      unfold dateOf; rw [List.drop_append, List.drop_eq_nil_of_le (by simp [dgs_len])]; simp [dgs_len]
    have h46 : ((dateOf y m d).drop 4).take 2 = dgs 2 m := by
      unfold dateOf; rw [List.append_assoc, List.drop_append, List.drop_eq_nil_of_le (by simp [dgs_len])]
      simp only [dgs_len, Nat.sub_self, List.drop_zero, List.nil_append]
      rw [List.take_append_of_le_length (by rw [dgs_len]; omega), List.take_of_length_le (by rw [dgs_len]; omega)]
    unfold dateB
    rw [date_len, date_dig, h4, h6, h46, dgs_num, dgs_num, dgs_num, Nat.mod_eq_of_lt (by omega), Nat.mod_eq_of_lt (by omega), Nat.mod_eq_of_lt (by omega)]
    have hdays : 28 ≤ daysOf y m := by
      unfold daysOf
      split
      · omega
      · split
        · omega
        · split
          · split <;> omega
          · omega
    simp
    omega
  show (if dateB (dateOf y m d) then (0 : Int) else 6) = 0
  rw [e]; rfl
/- Times. -/
theorem tm_len (n : Nat) : (timeOf n).length = 6 := by simp [timeOf, dgs_len]
theorem tm_digs (n : Nat) : digitsB (timeOf n) = true := by
  unfold timeOf; rw [digitsB_append, digitsB_append]; exact ⟨⟨dgs_digits _ _, dgs_digits _ _⟩, dgs_digits _ _⟩
theorem tm_num (n : Nat) (h : n < 86400) : num (timeOf n) = 10000 * ((n / 3600 : Nat) : Int) + 100 * ((n / 60 % 60 : Nat) : Int) + ((n % 60 : Nat) : Int) := by
  unfold timeOf
  rw [num_append, num_append, dgs_num, dgs_num, dgs_num, dgs_len, dgs_len, Nat.mod_eq_of_lt (a := n / 3600) (by omega), Nat.mod_eq_of_lt (a := n / 60 % 60) (by omega), Nat.mod_eq_of_lt (a := n % 60) (by omega)]
  omega
theorem tm_chk (n : Nat) (h : n < 86400) : chkF [84, 77] (timeOf n) = 0 := by
  have e : timeB (timeOf n) = true := by
    have h2 : (timeOf n).take 2 = dgs 2 (n / 3600) := by
      unfold timeOf; rw [List.append_assoc, List.take_append_of_le_length (by rw [dgs_len]; omega), List.take_of_length_le (by rw [dgs_len]; omega)]
    have h24 : ((timeOf n).drop 2).take 2 = dgs 2 (n / 60 % 60) := by
      unfold timeOf; rw [List.append_assoc, List.drop_append, List.drop_eq_nil_of_le (by simp [dgs_len])]
      simp only [dgs_len, Nat.sub_self, List.drop_zero, List.nil_append]
      rw [List.take_append_of_le_length (by rw [dgs_len]; omega), List.take_of_length_le (by rw [dgs_len]; omega)]
    have h46 : ((timeOf n).drop 4).take 2 = dgs 2 (n % 60) := by
      unfold timeOf; rw [List.drop_append, List.drop_eq_nil_of_le (by simp [dgs_len])]
      simp only [List.length_append, dgs_len, Nat.sub_self, List.drop_zero, List.nil_append]
      rw [List.take_of_length_le (by rw [dgs_len]; omega)]
    unfold timeB
    rw [tm_len, tm_digs, h2, h24, h46, dgs_num, dgs_num, dgs_num, Nat.mod_eq_of_lt (a := n / 3600) (by omega), Nat.mod_eq_of_lt (a := n / 60 % 60) (by omega), Nat.mod_eq_of_lt (a := n % 60) (by omega)]
    simp
    omega
  show (if timeB (timeOf n) then (0 : Int) else 6) = 0
  rw [e]; rfl
end Go.Proofs.YtaokifbpakbgdaaGreatDoor
