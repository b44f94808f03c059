/-
  Numbers in decimal digits with a sign: two tellings of them agree (no program).
-/
import Derived.Test.YtaokifbpakbgdaaGreatDoorDays
namespace Go.Proofs.YtaokifbpakbgdaaGreatDoor

def rdig (l : Bs) : Int := if 1 ≤ l.length ∧ l.length ≤ 12 ∧ digitsB l = true then num l else -1
/-- The number that digits spell behind others. -/
def val (acc : Nat) (t : Bs) : Nat := t.foldl (fun n c => 10 * n + (c.toNat - 48)) acc
theorem val_cons (acc : Nat) (c : UInt8) (t : Bs) : val acc (c :: t) = val (10 * acc + (c.toNat - 48)) t := by unfold val; rw [List.foldl_cons]
theorem val_mono (t : Bs) : ∀ acc, acc ≤ val acc t := by
  induction t with
  | nil => exact fun acc => Nat.le_refl _
  | cons c t ih =>
    intro acc
    have h := ih (10 * acc + (c.toNat - 48))
    rw [val_cons]
    generalize val (10 * acc + (c.toNat - 48)) t = v at h
    omega
theorem val_num : ∀ (t : Bs) (acc : Nat), digitsB t = true → ((val acc t : Nat) : Int) = t.foldl (fun n c => 10 * n + (nb c - 48)) (acc : Int)
  | [], _, _ => rfl
  | c :: t, acc, h => by
    rw [digitsB_cons, dg_iff] at h
    unfold nb at h
    rw [val_cons, val_num t _ h.2, List.foldl_cons]
    congr 1
    unfold nb
    omega
theorem parse_ok (M : Nat) (hM : M < 1844674407370955162) : ∀ (t : Bs) (acc : Nat), digitsB t = true → val acc t ≤ M → Lib.parseUintM M acc t = .ok (val acc t)
  | [], _, _, _ => rfl
  | c :: t, acc, h, hv => by
    rw [digitsB_cons, dg_iff] at h
    unfold nb at h
    rw [val_cons] at hv ⊢
    have hm := val_mono t (10 * acc + (c.toNat - 48))
    rw [Lib.parseUintM, if_pos (by omega), if_neg (by omega), if_neg (by omega), show acc * 10 + (c.toNat - 48) = 10 * acc + (c.toNat - 48) by omega]
    exact parse_ok M hM t _ h.2 hv
theorem ok_parse (M : Nat) : ∀ (t : Bs) (acc u : Nat), acc ≤ M → Lib.parseUintM M acc t = .ok u → digitsB t = true ∧ u = val acc t ∧ val acc t ≤ M
  | [], acc, u, ha, h => by
    have e : acc = u := by simpa [Lib.parseUintM] using h
    exact ⟨rfl, e.symm, ha⟩
  | c :: t, acc, u, ha, h => by
    rw [Lib.parseUintM] at h
    by_cases h1 : 48 ≤ c.toNat ∧ c.toNat ≤ 57
    · rw [if_pos h1] at h
      by_cases h2 : 1844674407370955162 ≤ acc
      · rw [if_pos h2] at h; cases h
      · rw [if_neg h2] at h
        by_cases h3 : M < acc * 10 + (c.toNat - 48)
        · rw [if_pos h3] at h; cases h
        · rw [if_neg h3, show acc * 10 + (c.toNat - 48) = 10 * acc + (c.toNat - 48) by omega] at h
          obtain ⟨e1, e2, e3⟩ := ok_parse M t _ u (by omega) h
          refine ⟨?_, e2, e3⟩
          rw [digitsB_cons, dg_iff]
          unfold nb
          exact ⟨by omega, e1⟩
    · rw [if_neg h1] at h; cases h
theorem val_is_num (t : Bs) (h : digitsB t = true) : ((val 0 t : Nat) : Int) = num t := val_num t 0 h
/-- The sign, and the digits behind it. -/
def sgn (l : Bs) : Int := if l.head? = some 45 then -1 else 1
def tl (l : Bs) : Bs := if l.head? = some 43 ∨ l.head? = some 45 then l.drop 1 else l
def rnumBad (l : Bs) : Bool := decide (rdig (tl l) < 0) || decide (12 < l.length)
def rnumV (l : Bs) : Int := if rnumBad l then 0 else sgn l * rdig (tl l)
def rnumOk (l : Bs) : Bool := !rnumBad l && decide (-2147483648 ≤ sgn l * rdig (tl l)) && decide (sgn l * rdig (tl l) ≤ 2147483647)
theorem parse_tl (l : Bs) (hl : l.length ≤ 12) (u : Nat) (h : Lib.parseUintB 32 (tl l) = .ok u) : rdig (tl l) = u ∧ 0 ≤ rdig (tl l) := by
  unfold Lib.parseUintB at h
  by_cases e : tl l = []
  · rw [if_pos e] at h; cases h
  · rw [if_neg e] at h
    obtain ⟨h1, h2, h3⟩ := ok_parse _ _ _ _ (by omega) h
    have hlen : 1 ≤ (tl l).length ∧ (tl l).length ≤ 12 := by
      constructor
      · cases ht : tl l with
        | nil => exact absurd ht e
        | cons a b => simp
      · have : (tl l).length ≤ l.length := by unfold tl; split <;> simp
        omega
    have : rdig (tl l) = num (tl l) := by unfold rdig; rw [if_pos ⟨hlen.1, hlen.2, h1⟩]
    rw [this, ← val_is_num _ h1, ← h2]
    exact ⟨rfl, by omega⟩
theorem tl_parse (l : Bs) (h : 0 ≤ rdig (tl l)) (hb : rdig (tl l) ≤ 4294967295) : ∃ u : Nat, Lib.parseUintB 32 (tl l) = .ok u ∧ rdig (tl l) = u := by
  have hd : 1 ≤ (tl l).length ∧ (tl l).length ≤ 12 ∧ digitsB (tl l) = true := by
    by_cases hc : 1 ≤ (tl l).length ∧ (tl l).length ≤ 12 ∧ digitsB (tl l) = true
    · exact hc
    · unfold rdig at h; rw [if_neg hc] at h; omega
  have e : rdig (tl l) = num (tl l) := by unfold rdig; rw [if_pos hd]
  have hv := val_is_num _ hd.2.2
  have hne : ¬ tl l = [] := fun e => by rw [e] at hd; simp at hd
  refine ⟨val 0 (tl l), ?_, by rw [e, hv]⟩
  unfold Lib.parseUintB
  rw [if_neg hne]
  exact parse_ok _ (by decide) _ _ hd.2.2 (by rw [e, ← hv] at hb; show _ ≤ 2 ^ 32 - 1; omega)
theorem toNat_lit (c : UInt8) (n : UInt8) : c.toNat = n.toNat ↔ c = n := UInt8.toNat_inj
theorem numB_ref (l : Bs) : numB l = if rnumOk l then some (rnumV l) else none := by
  unfold numB
  by_cases h12 : 12 < l.length
  · have hb : rnumBad l = true := by unfold rnumBad; rw [decide_eq_true h12, Bool.or_true]
    have : rnumOk l = false := by unfold rnumOk; rw [hb]; rfl
    rw [if_pos h12, this]; rfl
  · rw [if_neg h12]
    cases l with
    | nil => rfl
    | cons c r =>
      have htl : (if c.toNat = 43 ∨ c.toNat = 45 then r else c :: r) = tl (c :: r) := by
        unfold tl
        simp only [List.head?_cons, Option.some.injEq, List.drop_succ_cons, List.drop_zero]
        have e1 : (c.toNat = 43 ∨ c.toNat = 45) ↔ (c = 43 ∨ c = 45) := by rw [← toNat_lit c 43, ← toNat_lit c 45]; rfl
        by_cases h : c = 43 ∨ c = 45
        · rw [if_pos h, if_pos (e1.2 h)]
        · rw [if_neg h, if_neg (fun x => h (e1.1 x))]
      have hsg : (c.toNat = 45) ↔ (c :: r).head? = some 45 := by
        rw [List.head?_cons, Option.some.injEq, ← toNat_lit c 45]; rfl
      rw [Lib.parseIntB, htl]
      have hlen : (c :: r).length ≤ 12 := by omega
      rcases hp : Lib.parseUintB 32 (tl (c :: r)) with u | _ | _
      · obtain ⟨e1, e2⟩ := parse_tl (c :: r) hlen u hp
        have hb : rnumBad (c :: r) = false := by unfold rnumBad; rw [decide_eq_false (by omega), decide_eq_false h12]; rfl
        unfold rnumOk rnumV sgn
        rw [hb, e1]
        by_cases hn : c.toNat = 45
        · rw [if_pos (hsg.1 hn)]
          by_cases h31 : 2 ^ 31 < u
          · simp only [hn, not_true_eq_false, false_and, if_false, true_and]
            rw [if_pos h31, decide_eq_false (by omega : ¬ (-2147483648 ≤ -1 * (u : Int)))]; rfl
          · simp only [hn, not_true_eq_false, false_and, if_false, true_and]
            rw [if_neg h31, decide_eq_true (by omega : -2147483648 ≤ -1 * (u : Int)), decide_eq_true (by omega : -1 * (u : Int) ≤ 2147483647)]
            simp
        · rw [if_neg (fun h => hn (hsg.2 h))]
          by_cases h31 : 2 ^ 31 ≤ u
          · simp only [hn, not_false_eq_true, true_and]
            rw [if_pos h31, decide_eq_false (by omega : ¬ (1 * (u : Int) ≤ 2147483647))]; simp
          · simp only [hn, not_false_eq_true, true_and, false_and, if_false]
            rw [if_neg h31, decide_eq_true (by omega : -2147483648 ≤ 1 * (u : Int)), decide_eq_true (by omega : 1 * (u : Int) ≤ 2147483647)]
            simp
      all_goals
        have : rnumOk (c :: r) = false := by
          rw [Bool.eq_false_iff]
          intro ho
          unfold rnumOk rnumBad at ho
          simp only [Bool.and_eq_true, Bool.not_eq_true', Bool.or_eq_false_iff, decide_eq_false_iff_not, decide_eq_true_eq] at ho
          have hs : sgn (c :: r) = 1 ∨ sgn (c :: r) = -1 := by unfold sgn; split <;> simp
          have hb : rdig (tl (c :: r)) ≤ 4294967295 := by
            rcases hs with hs | hs <;> rw [hs] at ho <;> omega
          obtain ⟨u, hu, _⟩ := tl_parse (c :: r) (by omega) hb
          rw [hu] at hp
          cases hp
        rw [this]; rfl
end Go.Proofs.YtaokifbpakbgdaaGreatDoor
