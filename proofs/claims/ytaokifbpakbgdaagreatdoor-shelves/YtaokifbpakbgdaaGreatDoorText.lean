/-
  Plain facts on lists of bytes: what a value of a kind is, and which pattern it fits (no program).
-/
import Derived.Lib.Split
import Derived.Lib.ParseIntB
import Derived.Lib.Strings
import Derived.Lib.TrimByte
import Derived.Lib.Case
import Derived.WalkKit
namespace Go.Proofs.YtaokifbpakbgdaaGreatDoor
open Go.RowKit

abbrev Bs := List UInt8
/-- A byte as a number. -/
abbrev nb (c : UInt8) : Int := (c.toNat : Int)
def dgI (z : Int) : Bool := decide (48 ≤ z) && decide (z ≤ 57)
def dg (c : UInt8) : Bool := dgI (nb c)
def codeC (c : UInt8) : Bool := dg c || (decide (65 ≤ nb c) && decide (nb c ≤ 90)) || decide (nb c = 32) || decide (nb c = 95)
def textC (c : UInt8) : Bool := decide (32 ≤ nb c) && decide (nb c ≤ 126) && !decide (nb c = 92)
def digitsB (l : Bs) : Bool := l.all dg
def isCodeB (l : Bs) : Bool := decide (l.length ≤ 16) && l.all codeC
def isTextB (l : Bs) : Bool := decide (l.length ≤ 64) && l.all textC
def num (l : Bs) : Int := l.foldl (fun n c => 10 * n + (nb c - 48)) 0
def leap (y : Int) : Bool := decide (y % 4 = 0) && (!decide (y % 100 = 0) || decide (y % 400 = 0))
def daysOf (y m : Int) : Int :=
  if m = 1 ∨ m = 3 ∨ m = 5 ∨ m = 7 ∨ m = 8 ∨ m = 10 ∨ m = 12 then 31
  else if m = 4 ∨ m = 6 ∨ m = 9 ∨ m = 11 then 30
  else if m = 2 then (if leap y then 29 else 28) else 0
def dateB (l : Bs) : Bool :=
  decide (l.length = 8) && digitsB l && decide (1 ≤ num (l.drop 6)) && decide (num (l.drop 6) ≤ daysOf (num (l.take 4)) (num ((l.drop 4).take 2)))
def timeB (l : Bs) : Bool :=
  (decide (l.length = 2) || decide (l.length = 4) || decide (l.length = 6)) && digitsB l && decide (num (l.take 2) ≤ 23) && decide (num ((l.drop 2).take 2) ≤ 59) && decide (num ((l.drop 4).take 2) ≤ 59)
/-- A text parted at each byte c. -/
def spl (c : UInt8) : Bs → List Bs
  | [] => [[]]
  | x :: l => if x = c then [] :: spl c l else (x :: (spl c l).headD []) :: (spl c l).tail
def partB (p : Bs) : Bool := !decide (p = []) && digitsB p && !(decide (p.head? = some 48) && !decide (p = [48]))
def nameB (l : Bs) : Bool := decide (l.length ≤ 64) && (spl 46 l).all partB
def numB (l : Bs) : Option Int := if 12 < l.length then none else match Lib.parseIntB 32 l with
  | .ok v => some v
  | _ => none
def txtB (l : Bs) : Bool := !decide (l = []) && isTextB l && !decide (l.getLast? = some 32)

/- Bytes of a string. -/
theorem take_snoc (s : ByteArray) (k : Nat) (h : k < s.size) : s.data.toList.take (k + 1) = s.data.toList.take k ++ [s[k]] := by
  rw [List.take_succ_eq_append_getElem (by simpa using h)]; rfl
theorem all_next {s : ByteArray} {k : Nat} {p : UInt8 → Bool} (h : k < s.size) (ha : (s.data.toList.take k).all p = true) (hp : p s[k] = true) : (s.data.toList.take (k + 1)).all p = true := by
  rw [take_snoc s k h, List.all_append, ha]; simp [hp]
theorem all_end {s : ByteArray} {k : Nat} {p : UInt8 → Bool} (h : s.size ≤ k) (ha : (s.data.toList.take k).all p = true) : s.data.toList.all p = true := by
  rwa [List.take_of_length_le (by simpa using h)] at ha
theorem all_fail {s : ByteArray} {k : Nat} {p : UInt8 → Bool} (h : k < s.size) (hp : p s[k] = false) : s.data.toList.all p = false := by
  rw [List.all_eq_false]
  exact ⟨s[k], by exact Array.mem_toList_iff.2 (Array.getElem_mem h), by simp [hp]⟩

/- Numbers of digits. -/
theorem num_snoc (l : Bs) (c : UInt8) : num (l ++ [c]) = 10 * num l + (nb c - 48) := by simp [num]
theorem dg_iff (c : UInt8) : dg c = true ↔ 48 ≤ nb c ∧ nb c ≤ 57 := by simp [dg, dgI]
theorem num_bd (l : Bs) (h : l.all dg = true) : 0 ≤ num l ∧ num l < 10 ^ l.length := by
  rw [← List.reverse_reverse l] at h ⊢
  generalize l.reverse = r at h ⊢
  induction r with
  | nil => simp [num]
  | cons c r ih =>
    simp only [List.reverse_cons, List.all_append, Bool.and_eq_true] at h
    have h1 := ih h.1
    have h2 : dg c = true := by simpa using h.2
    rw [dg_iff] at h2
    rw [List.reverse_cons, num_snoc, List.length_append, List.length_singleton, Int.pow_succ]
    omega

/- A text parted at a byte. -/
theorem spl_ne (c : UInt8) (l : Bs) : spl c l ≠ [] := by
  cases l with
  | nil => simp [spl]
  | cons x l => unfold spl; split <;> simp
theorem spl_none (c : UInt8) : ∀ (l : Bs), c ∉ l → spl c l = [l]
  | [], _ => rfl
  | x :: l, h => by
    have h1 : x ≠ c := fun e => h (by simp [e])
    rw [spl, if_neg h1, spl_none c l (fun e => h (by simp [e]))]; rfl
theorem spl_hit (c : UInt8) (b : Bs) : ∀ (a : Bs), c ∉ a → spl c (a ++ c :: b) = a :: spl c b
  | [], _ => by simp [spl]
  | x :: a, h => by
    have h1 : x ≠ c := fun e => h (by simp [e])
    rw [List.cons_append, spl, if_neg h1, spl_hit c b a (fun e => h (by simp [e]))]; rfl
theorem index_one (c : UInt8) : ∀ (l : Bs), (Lib.index l [c] = -1 ∧ c ∉ l) ∨ ∃ i : Nat, Lib.index l [c] = i ∧ i < l.length ∧ l = l.take i ++ c :: l.drop (i + 1) ∧ c ∉ l.take i
  | [] => Or.inl ⟨rfl, by simp⟩
  | x :: l => by
    by_cases h : x = c
    · subst h
      exact Or.inr ⟨0, by simp [Lib.index, List.isPrefixOf], by simp, by simp, by simp⟩
    · have hp : List.isPrefixOf [c] (x :: l) = false := by simp [List.isPrefixOf]; exact fun e => h e.symm
      rcases index_one c l with ⟨h1, h2⟩ | ⟨i, h1, h2, h3, h4⟩
      · exact Or.inl ⟨by simp [Lib.index, hp, h1], by simp [h2]; exact fun e => h e.symm⟩
      · refine Or.inr ⟨i + 1, ?_, by simp; omega, by simpa using h3, by simp [h4]; exact fun e => h e.symm⟩
        have : ((i : Int) == -1) = false := by rw [beq_eq_false_iff_ne]; omega
        simp [Lib.index, hp, h1, this]
theorem splitK_one (c : UInt8) : ∀ (fuel : Nat) (l : Bs), l.length < fuel → Lib.splitK [c] 0 (Lib.countFrom [c] fuel l) l = spl c l
  | 0, _, h => by omega
  | fuel + 1, l, h => by
    rcases index_one c l with ⟨h1, h2⟩ | ⟨i, h1, h2, h3, h4⟩
    · rw [Lib.countFrom, h1, spl_none c l h2]; rfl
    · have hne : ((i : Int) == -1) = false := by rw [beq_eq_false_iff_ne]; omega
      have ih := splitK_one c fuel (l.drop (i + 1)) (by simp; omega)
      rw [Lib.countFrom, h1, hne]
      simp only [Bool.false_eq_true, if_false, Int.toNat_natCast, List.length_singleton]
      rw [Nat.add_comm 1, Lib.splitK, h1, hne]
      simp only [Bool.false_eq_true, if_false, Int.toNat_natCast, List.length_singleton, Nat.add_zero]
      rw [ih]
      conv => rhs; rw [h3]
      rw [spl_hit c _ _ h4]
theorem splitB_one (s : ByteArray) (c : UInt8) : (Lib.splitB ⟨#[c]⟩ 0 (Lib.countB s ⟨#[c]⟩) s).map (·.data.toList) = spl c s.data.toList := by
  rw [Lib.splitB_data]
  exact splitK_one c _ _ (by omega)
theorem spl_length (c : UInt8) : ∀ (l : Bs), (spl c l).length = l.count c + 1
  | [] => rfl
  | x :: l => by
    have ih := spl_length c l
    by_cases h : x = c
    · subst h; rw [spl, if_pos rfl]; simp [ih]
    · have hb : (x == c) = false := by simpa using h
      rw [spl, if_neg h, List.count_cons, hb]
      simp [ih]

/- The kinds. -/
def isNum (l : Bs) : Bool := (numB l).isSome
/-- Check without its leave for the empty value: 0, 2 (no kind), 6 (no value). -/
def chkF (k l : Bs) : Int :=
  if k = [67, 83] then (if isCodeB l && decide (l.count 94 ≤ 4) && txtB l then 0 else 6)
  else if k = [80, 78] then (if decide (l.count 94 ≤ 4) && txtB l then 0 else 6)
  else if k = [76, 79] then (if txtB l then 0 else 6)
  else if k = [85, 73] then (if nameB l then 0 else 6)
  else if k = [68, 65] then (if dateB l then 0 else 6)
  else if k = [84, 77] then (if timeB l then 0 else 6)
  else if k = [73, 83] then (if isNum l then 0 else 6)
  else 2
def chk (k l : Bs) : Int := if chkF k l = 6 ∧ l = [] then 0 else chkF k l
theorem suffix_blank (l : Bs) : Lib.hasSuffix l [32] = decide (l.getLast? = some 32) := by
  rw [Bool.eq_iff_iff]
  simp only [Lib.hasSuffix, List.isSuffixOf_iff_suffix, decide_eq_true_eq]
  constructor
  · rintro ⟨t, rfl⟩; simp
  · intro h
    obtain ⟨t, ht⟩ := List.getLast?_eq_some_iff.1 h
    exact ⟨t, ht.symm⟩
end Go.Proofs.YtaokifbpakbgdaaGreatDoor
