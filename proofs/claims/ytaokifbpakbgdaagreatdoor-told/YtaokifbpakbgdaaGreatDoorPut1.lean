/-
  Several texts in one; what each one has stands at its head.
-/
import Derived.Lib.Split
import Derived.Lib.ParseIntB
import Derived.Lib.Strings
import Derived.Lib.TrimByte
import Derived.Lib.Case
import Derived.WalkKit
import Derived.Test.YtaokifbpakbgdaaGreatDoorRows
import Derived.WalkSpells
import Derived.WalkLawsBesides
import Derived.Handy
import Derived.PlainAid
/- Plain facts on lists of bytes: what a value of a kind is, and which pattern it fits (no program). -/
namespace Go.Proofs.YtaokifbpakbgdaaGreatDoor
open Go.RowKit

abbrev Bs := List UInt8
/-- A byte as a number. -/
abbrev nb (c : UInt8) : Int := (c.toNat : Int)
def dgI (z : Int) : Bool := decide (48 ≤ z) && decide (z ≤ 57)
def dg (c : UInt8) : Bool := dgI (nb c)
def codeC (c : UInt8) : Bool := dg c || (decide (65 ≤ nb c) && decide (nb c ≤ 90)) || decide (nb c = 32) || decide (nb c = 95)
def textC (c : UInt8) : Bool := decide (32 ≤ nb c) && decide (nb c ≤ 126) && !decide (nb c = 92)
def digitsB (l : Bs) : Bool := l.all dg
def isCodeB (l : Bs) : Bool := decide (l.length ≤ 16) && l.all codeC
def isTextB (l : Bs) : Bool := decide (l.length ≤ 64) && l.all textC
def num (l : Bs) : Int := l.foldl (fun n c => 10 * n + (nb c - 48)) 0
def leap (y : Int) : Bool := decide (y % 4 = 0) && (!decide (y % 100 = 0) || decide (y % 400 = 0))
def daysOf (y m : Int) : Int :=
  if m = 1 ∨ m = 3 ∨ m = 5 ∨ m = 7 ∨ m = 8 ∨ m = 10 ∨ m = 12 then 31
  else if m = 4 ∨ m = 6 ∨ m = 9 ∨ m = 11 then 30
  else if m = 2 then (if leap y then 29 else 28) else 0
def dateB (l : Bs) : Bool :=
  decide (l.length = 8) && digitsB l && decide (1 ≤ num (l.drop 6)) && decide (num (l.drop 6) ≤ daysOf (num (l.take 4)) (num ((l.drop 4).take 2)))
def timeB (l : Bs) : Bool :=
  (decide (l.length = 2) || decide (l.length = 4) || decide (l.length = 6)) && digitsB l && decide (num (l.take 2) ≤ 23) && decide (num ((l.drop 2).take 2) ≤ 59) && decide (num ((l.drop 4).take 2) ≤ 59)
/-- A text parted at each byte c. -/
def spl (c : UInt8) : Bs → List Bs
  | [] => [[]]
  | x :: l => if x = c then [] :: spl c l else (x :: (spl c l).headD []) :: (spl c l).tail
def partB (p : Bs) : Bool := !decide (p = []) && digitsB p && !(decide (p.head? = some 48) && !decide (p = [48]))
def nameB (l : Bs) : Bool := decide (l.length ≤ 64) && (spl 46 l).all partB
def numB (l : Bs) : Option Int := if 12 < l.length then none else match Lib.parseIntB 32 l with
  | .ok v => some v
  | _ => none
def txtB (l : Bs) : Bool := !decide (l = []) && isTextB l && !decide (l.getLast? = some 32)

/- Bytes of a string. -/
theorem take_snoc (s : ByteArray) (k : Nat) (h : k < s.size) : s.data.toList.take (k + 1) = s.data.toList.take k ++ [s[k]] := by
  rw [List.take_succ_eq_append_getElem (by simpa using h)]; rfl
theorem all_next {s : ByteArray} {k : Nat} {p : UInt8 → Bool} (h : k < s.size) (ha : (s.data.toList.take k).all p = true) (hp : p s[k] = true) : (s.data.toList.take (k + 1)).all p = true := by
  rw [take_snoc s k h, List.all_append, ha]; simp [hp]
theorem all_end {s : ByteArray} {k : Nat} {p : UInt8 → Bool} (h : s.size ≤ k) (ha : (s.data.toList.take k).all p = true) : s.data.toList.all p = true := by
  rwa [List.take_of_length_le (by simpa using h)] at ha
theorem all_fail {s : ByteArray} {k : Nat} {p : UInt8 → Bool} (h : k < s.size) (hp : p s[k] = false) : s.data.toList.all p = false := by
  rw [List.all_eq_false]
  exact ⟨s[k], by exact Array.mem_toList_iff.2 (Array.getElem_mem h), by simp [hp]⟩

/- Numbers of digits. -/
theorem num_snoc (l : Bs) (c : UInt8) : num (l ++ [c]) = 10 * num l + (nb c - 48) := by simp [num]
theorem dg_iff (c : UInt8) : dg c = true ↔ 48 ≤ nb c ∧ nb c ≤ 57 := by simp [dg, dgI]
theorem num_bd (l : Bs) (h : l.all dg = true) : 0 ≤ num l ∧ num l < 10 ^ l.length := by
  rw [← List.reverse_reverse l] at h ⊢
  generalize l.reverse = r at h ⊢
  induction r with
  | nil => simp [num]
  | cons c r ih =>
    simp only [List.reverse_cons, List.all_append, Bool.and_eq_true] at h
    have h1 := ih h.1
    have h2 : dg c = true := by simpa using h.2
    rw [dg_iff] at h2
    rw [List.reverse_cons, num_snoc, List.length_append, List.length_singleton, Int.pow_succ]
    omega

/- A text parted at a byte. -/
theorem spl_ne (c : UInt8) (l : Bs) : spl c l ≠ [] := by
  cases l with
  | nil => simp [spl]
  | cons x l => unfold spl; split <;> simp
theorem spl_none (c : UInt8) : ∀ (l : Bs), c ∉ l → spl c l = [l]
  | [], _ => rfl
  | x :: l, h => by
    have h1 : x ≠ c := fun e => h (by simp [e])
    rw [spl, if_neg h1, spl_none c l (fun e => h (by simp [e]))]; rfl
theorem spl_hit (c : UInt8) (b : Bs) : ∀ (a : Bs), c ∉ a → spl c (a ++ c :: b) = a :: spl c b
  | [], _ => by simp [spl]
  | x :: a, h => by
    have h1 : x ≠ c := fun e => h (by simp [e])
    rw [List.cons_append, spl, if_neg h1, spl_hit c b a (fun e => h (by simp [e]))]; rfl
theorem index_one (c : UInt8) : ∀ (l : Bs), (Lib.index l [c] = -1 ∧ c ∉ l) ∨ ∃ i : Nat, Lib.index l [c] = i ∧ i < l.length ∧ l = l.take i ++ c :: l.drop (i + 1) ∧ c ∉ l.take i
  | [] => Or.inl ⟨rfl, by simp⟩
  | x :: l => by
    by_cases h : x = c
    · subst h
      exact Or.inr ⟨0, by simp [Lib.index, List.isPrefixOf], by simp, by simp, by simp⟩
    · have hp : List.isPrefixOf [c] (x :: l) = false := by simp [List.isPrefixOf]; exact fun e => h e.symm
      rcases index_one c l with ⟨h1, h2⟩ | ⟨i, h1, h2, h3, h4⟩
      · exact Or.inl ⟨by simp [Lib.index, hp, h1], by simp [h2]; exact fun e => h e.symm⟩
      · refine Or.inr ⟨i + 1, ?_, by simp; omega, by simpa using h3, by simp [h4]; exact fun e => h e.symm⟩
        have : ((i : Int) == -1) = false := by rw [beq_eq_false_iff_ne]; omega
        simp [Lib.index, hp, h1, this]
theorem splitK_one (c : UInt8) : ∀ (fuel : Nat) (l : Bs), l.length < fuel → Lib.splitK [c] 0 (Lib.countFrom [c] fuel l) l = spl c l
  | 0, _, h => by omega
  | fuel + 1, l, h => by
    rcases index_one c l with ⟨h1, h2⟩ | ⟨i, h1, h2, h3, h4⟩
    · rw [Lib.countFrom, h1, spl_none c l h2]; rfl
    · have hne : ((i : Int) == -1) = false := by rw [beq_eq_false_iff_ne]; omega
      have ih := splitK_one c fuel (l.drop (i + 1)) (by simp; omega)
      rw [Lib.countFrom, h1, hne]
      simp only [Bool.false_eq_true, if_false, Int.toNat_natCast, List.length_singleton]
      rw [Nat.add_comm 1, Lib.splitK, h1, hne]
      simp only [Bool.false_eq_true, if_false, Int.toNat_natCast, List.length_singleton, Nat.add_zero]
      rw [ih]
      conv => rhs; rw [h3]
      rw [spl_hit c _ _ h4]
theorem splitB_one (s : ByteArray) (c : UInt8) : (Lib.splitB ⟨#[c]⟩ 0 (Lib.countB s ⟨#[c]⟩) s).map (·.data.toList) = spl c s.data.toList := by
  rw [Lib.splitB_data]
  exact splitK_one c _ _ (by omega)
/- The kinds. -/
def isNum (l : Bs) : Bool := (numB l).isSome
/-- Check without its leave for the empty value: 0, 2 (no kind), 6 (no value). -/
def chkF (k l : Bs) : Int :=
  if k = [67, 83] then (if isCodeB l && decide (l.count 94 ≤ 4) && txtB l then 0 else 6)
  else if k = [80, 78] then (if decide (l.count 94 ≤ 4) && txtB l then 0 else 6)
  else if k = [76, 79] then (if txtB l then 0 else 6)
  else if k = [85, 73] then (if nameB l then 0 else 6)
  else if k = [68, 65] then (if dateB l then 0 else 6)
  else if k = [84, 77] then (if timeB l then 0 else 6)
  else if k = [73, 83] then (if isNum l then 0 else 6)
  else 2
def chk (k l : Bs) : Int := if chkF k l = 6 ∧ l = [] then 0 else chkF k l
theorem suffix_blank (l : Bs) : Lib.hasSuffix l [32] = decide (l.getLast? = some 32) := by
  rw [Bool.eq_iff_iff]
  simp only [Lib.hasSuffix, List.isSuffixOf_iff_suffix, decide_eq_true_eq]
  constructor
  · rintro ⟨t, rfl⟩; simp
  · intro h
    obtain ⟨t, ht⟩ := List.getLast?_eq_some_iff.1 h
    exact ⟨t, ht.symm⟩
end Go.Proofs.YtaokifbpakbgdaaGreatDoor

/- What the small functions of package value answer (loops over a text's bytes, numbers of digits, days of a month). -/
namespace Go.Proofs.YtaokifbpakbgdaaGreatDoor
open Go.RowKit

theorem vret_bool {a b : Bool} (h : a = b) : Ending.returned (.bool a) = .returned (.bool b) := by rw [h]
theorem vret_int {k : IntKind} {a b : Int} (h : a = b) : Ending.returned (.int k a) = .returned (.int k b) := by rw [h]

theorem isLeap_any (y : Int) (w : World) (h0 : 0 ≤ y) (h1 : y ≤ 9999) :
    Calls Tryz.prog 211 #[.int .i64 y] w fun e w' => e = .returned (.bool (leap y)) ∧ w' = w := by
  go_enter Tryz.func211, Tryz.ntmps211
  go_wp2
  all_goals go_ret
  all_goals (refine ⟨vret_bool ?_, rfl⟩)
  all_goals (simp_all [leap]; try rfl)

theorem isDigit_any (z : Int) (w : World) :
    Calls Tryz.prog 136 #[.int .u8 z] w fun e w' => e = .returned (.bool (dgI z)) ∧ w' = w := by
  go_enter Tryz.func136, Tryz.ntmps136
  go_wp2
  all_goals go_ret
  all_goals (refine ⟨vret_bool ?_, rfl⟩; simp [dgI]; omega)

theorem isDigits_any (s : ByteArray) (w : World) (hs : s.size ≤ 9223372036854775807) :
    Calls Tryz.prog 141 #[.string s] w fun e w' => e = .returned (.bool (digitsB s.data.toList)) ∧ w' = w := by
  have hl : Hid (s.data.toList.length = s.size) := by unfold Hid; simp
  go_enter Tryz.func141, Tryz.ntmps141
  go_wp2
  go_loop [6] (fun i => ∃ k : Nat, k ≤ s.size ∧ i = .int .i64 k ∧ Hid ((s.data.toList.take k).all dg = true)) (fun i => s.size - (intOf i).toNat)
  case atStart => exact ⟨0, Nat.zero_le _, rfl, rfl⟩
  case round =>
    obtain ⟨k, hk, rfl, ha⟩ := hrel
    by_cases hlt : k < s.size
    · cases hd : dgI (s[k].toNat : Int) <;> 
        (go_wp2_with (go_at_call 136; refine (isDigit_any _ _).mono ?_; rintro e w' ⟨rfl, rfl⟩)
         all_goals first
          | (exfalso; simp_all; done)
          | (go_round
             case rel => exact ⟨k + 1, by omega, by go_num, all_next hlt ha.out (by simp [dg, nb, *])⟩
             case measure => simp [intOf]; omega)
          | (go_ret
             refine ⟨vret_bool ?_, rfl⟩
             exact (all_fail (p := dg) hlt (by simp [dg, nb, *])).symm))
    · go_wp2
      go_ret
      exact ⟨vret_bool (all_end (p := dg) (by omega) ha.out).symm, rfl⟩

theorem isCode_any (s : ByteArray) (w : World) (hs : s.size ≤ 9223372036854775807) :
    Calls Tryz.prog 75 #[.string s] w fun e w' => e = .returned (.bool (isCodeB s.data.toList)) ∧ w' = w := by
  have hl : Hid (s.data.toList.length = s.size) := by unfold Hid; simp
  by_cases h16 : s.size ≤ 16
  · go_enter Tryz.func75, Tryz.ntmps75
    go_wp2
    go_loop [10] (fun i => ∃ k : Nat, k ≤ s.size ∧ i = .int .i64 k ∧ Hid ((s.data.toList.take k).all codeC = true)) (fun i => s.size - (intOf i).toNat)
    case atStart => exact ⟨0, Nat.zero_le _, rfl, rfl⟩
    case round =>
      obtain ⟨k, hk, rfl, ha⟩ := hrel
      by_cases hlt : k < s.size
      · cases hd : dgI (s[k].toNat : Int) <;> go_each [(s[k].toNat : Int) < 65, (90 : Int) < s[k].toNat, (s[k].toNat : Int) = 32, (s[k].toNat : Int) = 95] =>
          (go_wp2_with (go_at_call 136; refine (isDigit_any _ _).mono ?_; rintro e w' ⟨rfl, rfl⟩)
           all_goals first
            | (exfalso; simp_all; done)
            | (go_round
               case rel => exact ⟨k + 1, by omega, by go_num, all_next hlt ha.out (by simp [codeC, dg, nb, *]; try omega)⟩
               case measure => simp [intOf]; omega)
            | (go_ret
               refine ⟨vret_bool ?_, rfl⟩
               unfold isCodeB; rw [all_fail (p := codeC) hlt (by simp [codeC, dg, nb, *]; try omega), Bool.and_false]))
      · go_wp2
        go_ret
        refine ⟨vret_bool ?_, rfl⟩
        unfold isCodeB
        rw [all_end (p := codeC) (by omega) ha.out, hl.out, decide_eq_true h16]; rfl
  · go_enter Tryz.func75, Tryz.ntmps75
    go_wp2
    go_ret
    refine ⟨vret_bool ?_, rfl⟩
    unfold isCodeB
    rw [hl.out, decide_eq_false h16]; rfl

theorem isText_any (s : ByteArray) (w : World) (hs : s.size ≤ 9223372036854775807) :
    Calls Tryz.prog 65 #[.string s] w fun e w' => e = .returned (.bool (isTextB s.data.toList)) ∧ w' = w := by
  have hl : Hid (s.data.toList.length = s.size) := by unfold Hid; simp
  by_cases h16 : s.size ≤ 64
  · go_enter Tryz.func65, Tryz.ntmps65
    go_wp2
    go_loop [10] (fun i => ∃ k : Nat, k ≤ s.size ∧ i = .int .i64 k ∧ Hid ((s.data.toList.take k).all textC = true)) (fun i => s.size - (intOf i).toNat)
    case atStart => exact ⟨0, Nat.zero_le _, rfl, rfl⟩
    case round =>
      obtain ⟨k, hk, rfl, ha⟩ := hrel
      by_cases hlt : k < s.size
      · go_each [(s[k].toNat : Int) < 32, (126 : Int) < s[k].toNat, (s[k].toNat : Int) = 92] =>
          (go_wp2
           all_goals first
            | (exfalso; simp_all; done)
            | (go_round
               case rel => exact ⟨k + 1, by omega, by go_num, all_next hlt ha.out (by simp [textC, nb, *]; try omega)⟩
               case measure => simp [intOf]; omega)
            | (go_ret
               refine ⟨vret_bool ?_, rfl⟩
               unfold isTextB; rw [all_fail (p := textC) hlt (by simp [textC, nb, *]; try omega), Bool.and_false]))
      · go_wp2
        go_ret
        refine ⟨vret_bool ?_, rfl⟩
        unfold isTextB
        rw [all_end (p := textC) (by omega) ha.out, hl.out, decide_eq_true h16]; rfl
  · go_enter Tryz.func65, Tryz.ntmps65
    go_wp2
    go_ret
    refine ⟨vret_bool ?_, rfl⟩
    unfold isTextB
    rw [hl.out, decide_eq_false h16]; rfl

theorem digits_mem (s : ByteArray) (k : Nat) (hk : k < s.size) (h : digitsB s.data.toList = true) : 48 ≤ (s[k].toNat : Int) ∧ (s[k].toNat : Int) ≤ 57 := by
  unfold digitsB at h
  rw [List.all_eq_true] at h
  exact (dg_iff _).1 (h s[k] (Array.mem_toList_iff.2 (Array.getElem_mem hk)))
theorem digits_take (l : Bs) (k : Nat) (h : digitsB l = true) : digitsB (l.take k) = true := by
  unfold digitsB at h ⊢
  rw [List.all_eq_true] at h ⊢
  exact fun x hx => h x (List.mem_of_mem_take hx)
theorem digits_drop (l : Bs) (k : Nat) (h : digitsB l = true) : digitsB (l.drop k) = true := by
  unfold digitsB at h ⊢
  rw [List.all_eq_true] at h ⊢
  exact fun x hx => h x (List.mem_of_mem_drop hx)
theorem num_lt (l : Bs) (h : digitsB l = true) (n : Nat) (hn : l.length ≤ n) (N : Int) (hN : (10 : Int) ^ n = N) : 0 ≤ num l ∧ num l < N := by
  have h1 := num_bd l h
  have h2 : (10 : Int) ^ l.length ≤ 10 ^ n := by
    have : 10 ^ l.length ≤ 10 ^ n := Nat.pow_le_pow_right (by omega) hn
    exact_mod_cast this
  omega
theorem digits_any (s : ByteArray) (w : World) (hs : s.size ≤ 8) (hd : digitsB s.data.toList = true) :
    Calls Tryz.prog 142 #[.string s] w fun e w' => e = .returned (.int .i64 (num s.data.toList)) ∧ w' = w := by
  have HD : Hid (digitsB s.data.toList = true) := hd
  clear hd
  go_enter Tryz.func142, Tryz.ntmps142
  go_wp2
  go_loop [3, 7] (fun n i => ∃ k : Nat, k ≤ s.size ∧ i = .int .i64 k ∧ n = .int .i64 (num (s.data.toList.take k))) (fun _ i => s.size - (intOf i).toNat)
  case atStart => exact ⟨0, Nat.zero_le _, rfl, rfl⟩
  case round =>
    obtain ⟨k, hk, rfl, rfl⟩ := hrel
    by_cases hlt : k < s.size
    · have hb := num_lt (s.data.toList.take k) (digits_take _ k HD.out) 8 (by simp; omega) 100000000 rfl
      have hc := digits_mem s k hlt HD.out
      have HS : Hid (num (s.data.toList.take (k + 1)) = 10 * num (s.data.toList.take k) + (nb s[k] - 48)) := by rw [take_snoc s k hlt]; exact num_snoc _ _
      go_wp2
      go_round
      case rel => exact ⟨k + 1, by omega, by go_num, by rw [HS.out]⟩
      case measure => simp [intOf]; omega
    · go_wp2
      go_ret
      exact ⟨vret_int (by rw [List.take_of_length_le (by simp; omega)]), rfl⟩

theorem daysOf_any (y m : Int) (w : World) (h0 : 0 ≤ y) (h1 : y ≤ 9999) :
    Calls Tryz.prog 143 #[.int .i64 y, .int .i64 m] w fun e w' => e = .returned (.int .i64 (daysOf y m)) ∧ w' = w := by
  cases hl : leap y <;>
  (go_enter Tryz.func143, Tryz.ntmps143
   go_wp2_with (go_at_call 211; refine (isLeap_any _ _ h0 h1).mono ?_; rintro e w' ⟨rfl, rfl⟩)
   all_goals go_ret
   all_goals (refine ⟨vret_int ?_, rfl⟩; simp_all [daysOf]))
end Go.Proofs.YtaokifbpakbgdaaGreatDoor
