/-
  Several texts in one; what each one has stands at its head.
-/
import Derived.Test.YtaokifbpakbgdaaGreatDoorPut13
import Derived.Test.YtaokifbpakbgdaaGreatDoorPut7
import Derived.Test.YtaokifbpakbgdaaGreatDoorPut8
import Derived.Test.YtaokifbpakbgdaaGreatDoorPut9
/- The document's answer (package folioref), fifth part: number, valueOK, Check. -/
namespace Go.Proofs.YtaokifbpakbgdaaGreatDoor
open Go.RowKit

theorem head_list {s : ByteArray} (h0 : 0 < s.size) : s.data.toList.head? = some s[0] := head_of h0
theorem rdig_bd (l : Bs) : -1 ≤ rdig l ∧ rdig l < 1000000000000 := by
  unfold rdig
  split
  · rename_i h
    have := num_lt l h.2.2 12 h.2.1 1000000000000 rfl
    omega
  · omega
set_option maxHeartbeats 1000000 in
theorem rnumber_any (s : ByteArray) (w : World) (hs : s.size ≤ 9223372036854775806) :
    Calls Tryz.prog 85 #[.string s] w fun e w' => e = .returned (.tuple #[.int .i64 (rnumV s.data.toList), .bool (rnumOk s.data.toList)]) ∧ w' = w := by
  have hl : Hid (s.data.toList.length = s.size) := len_list s
  have fin : ∀ (sg : Int) (t : Bs), (sg = 1 ∨ sg = -1) → sgn s.data.toList = sg → tl s.data.toList = t →
      Hid ((rdig t < 0 ∨ 12 < s.size → rnumV s.data.toList = 0 ∧ rnumOk s.data.toList = false) ∧ (¬ (rdig t < 0 ∨ 12 < s.size) → rnumV s.data.toList = sg * rdig t ∧ rnumOk s.data.toList = (decide (-2147483648 ≤ sg * rdig t) && decide (sg * rdig t ≤ 2147483647)))) := by
    intro sg t _ e1 e2
    constructor
    · intro h
      have hb : rnumBad s.data.toList = true := by unfold rnumBad; rw [e2, hl.out]; simpa using h
      unfold rnumV rnumOk
      rw [hb]
      exact ⟨rfl, rfl⟩
    · intro h
      have hb : rnumBad s.data.toList = false := by unfold rnumBad; rw [e2, hl.out]; simpa using h
      unfold rnumV rnumOk
      rw [hb, e1, e2]
      exact ⟨rfl, rfl⟩
  by_cases he : s.toList = []
  · have e0 : s.data.toList = [] := by rw [← Lib.toList_data]; exact he
    have F := fin 1 s.data.toList (Or.inl rfl) (by rw [e0]; rfl) (by rw [e0]; rfl)
    have hr : Hid (rdig s.data.toList = -1) := by unfold Hid; rw [e0]; rfl
    have hz : Hid (rnumV s.data.toList = 0 ∧ rnumOk s.data.toList = false) := F.out.1 (Or.inl (by rw [hr.out]; omega))
    clear F fin
    go_enter Tryz.func85, Tryz.ntmps85
    go_wp2_with fail
    go_at_call 145; refine (rdigits_any _ _ (by omega)).mono ?_; rintro e w1 ⟨rfl, rfl⟩
    rw [hr.out]
    go_wp2_with fail
    go_ret2
    exact ⟨by rw [hz.out.1, hz.out.2]; rfl, rfl⟩
  · have h0 : 0 < s.size := by
      rcases Nat.eq_zero_or_pos s.size with h | h
      · exact absurd (by rw [Lib.toList_data]; exact List.eq_nil_of_length_eq_zero (by rw [len_list]; exact h)) he
      · exact h
    have hie : s.toList.isEmpty = false := by simpa using he
    have hd1 : Hid ((s.extract 1 s.size).data.toList = s.data.toList.drop 1) := by
      unfold Hid; rw [sub_data, List.take_of_length_le (by simp)]
    by_cases h45 : (s[0].toNat : Int) = 45
    · have F := fin (-1) (s.data.toList.drop 1) (Or.inr rfl) (by unfold sgn; rw [head_list h0, (byte_eq 45).2 h45]; rfl) (by unfold tl; rw [head_list h0, (byte_eq 45).2 h45]; rfl)
      rw [← hd1.out] at F
      have bd := rdig_bd (s.extract 1 s.size).data.toList
      generalize hn : rdig (s.extract 1 s.size).data.toList = n at F bd
      have Hn := hid hn
      clear hn fin
      by_cases n0 : n < 0
      · have hz := hid (F.out.1 (Or.inl n0))
        have d0 : decide (n < 0) = true := decide_eq_true n0
        clear F
        go_enter Tryz.func85, Tryz.ntmps85
        go_wp2_with fail
        go_at_call 145; refine (rdigits_any _ _ (by rw [ByteArray.size_extract]; omega)).mono ?_; rintro e w1 ⟨rfl, rfl⟩
        rw [Hn.out]
        go_wp2_with fail
        go_ret2
        exact ⟨by rw [hz.out.1, hz.out.2]; rfl, rfl⟩
      · have d0 : decide (n < 0) = false := decide_eq_false n0
        by_cases n12 : 12 < s.size
        · have hz := hid (F.out.1 (Or.inr n12))
          have d12 : decide ((12 : Int) < (s.size : Int)) = true := by simp; omega
          clear F
          go_enter Tryz.func85, Tryz.ntmps85
          go_wp2_with fail
          go_at_call 145; refine (rdigits_any _ _ (by rw [ByteArray.size_extract]; omega)).mono ?_; rintro e w1 ⟨rfl, rfl⟩
          rw [Hn.out]
          go_wp2_with fail
          go_ret2
          exact ⟨by rw [hz.out.1, hz.out.2]; rfl, rfl⟩
        · have hz := hid (F.out.2 (by omega))
          have d12 : decide ((12 : Int) < (s.size : Int)) = false := by simp; omega
          clear F
          by_cases g : -2147483648 ≤ (-1) * n
          all_goals
            go_enter Tryz.func85, Tryz.ntmps85
            go_wp2_with fail
            go_at_call 145; refine (rdigits_any _ _ (by rw [ByteArray.size_extract]; omega)).mono ?_; rintro e w1 ⟨rfl, rfl⟩
            rw [Hn.out]
            go_wp2
            go_ret2
            refine ⟨?_, rfl⟩
            rw [hz.out.1, hz.out.2]
            simp
            try omega
    · have n45 : ((s[0].toNat : Int) == 45) = false := by simpa using h45
      by_cases h43 : (s[0].toNat : Int) = 43
      · have F := fin 1 (s.data.toList.drop 1) (Or.inl rfl) (by unfold sgn; rw [head_list h0, (byte_eq 43).2 h43]; rfl) (by unfold tl; rw [head_list h0, (byte_eq 43).2 h43]; rfl)
        rw [← hd1.out] at F
        have bd := rdig_bd (s.extract 1 s.size).data.toList
        generalize hn : rdig (s.extract 1 s.size).data.toList = n at F bd
        have Hn := hid hn
        clear hn fin
        by_cases n0 : n < 0
        · have hz := hid (F.out.1 (Or.inl n0))
          have d0 : decide (n < 0) = true := decide_eq_true n0
          clear F
          go_enter Tryz.func85, Tryz.ntmps85
          go_wp2_with fail
          go_at_call 145; refine (rdigits_any _ _ (by rw [ByteArray.size_extract]; omega)).mono ?_; rintro e w1 ⟨rfl, rfl⟩
          rw [Hn.out]
          go_wp2_with fail
          go_ret2
          exact ⟨by rw [hz.out.1, hz.out.2]; rfl, rfl⟩
        · have d0 : decide (n < 0) = false := decide_eq_false n0
          by_cases n12 : 12 < s.size
          · have hz := hid (F.out.1 (Or.inr n12))
            have d12 : decide ((12 : Int) < (s.size : Int)) = true := by simp; omega
            clear F
            go_enter Tryz.func85, Tryz.ntmps85
            go_wp2_with fail
            go_at_call 145; refine (rdigits_any _ _ (by rw [ByteArray.size_extract]; omega)).mono ?_; rintro e w1 ⟨rfl, rfl⟩
            rw [Hn.out]
            go_wp2_with fail
            go_ret2
            exact ⟨by rw [hz.out.1, hz.out.2]; rfl, rfl⟩
          · have hz := hid (F.out.2 (by omega))
            have d12 : decide ((12 : Int) < (s.size : Int)) = false := by simp; omega
            clear F
            have g : -2147483648 ≤ n := by omega
            all_goals
              go_enter Tryz.func85, Tryz.ntmps85
              go_wp2_with fail
              go_at_call 145; refine (rdigits_any _ _ (by rw [ByteArray.size_extract]; omega)).mono ?_; rintro e w1 ⟨rfl, rfl⟩
              rw [Hn.out]
              go_wp2
              go_ret2
              refine ⟨?_, rfl⟩
              rw [hz.out.1, hz.out.2]
              simp
              try omega
      · have n43 : ((s[0].toNat : Int) == 43) = false := by simpa using h43
        have F := fin 1 s.data.toList (Or.inl rfl) (by unfold sgn; rw [head_list h0, if_neg (fun e => h45 ((byte_eq 45).1 (Option.some.inj e)))]) (by unfold tl; rw [head_list h0, if_neg (fun e => e.elim (fun e => h43 ((byte_eq 43).1 (Option.some.inj e))) (fun e => h45 ((byte_eq 45).1 (Option.some.inj e))))])
        have bd := rdig_bd s.data.toList
        generalize hn : rdig s.data.toList = n at F bd
        have Hn := hid hn
        clear hn fin
        by_cases n0 : n < 0
        · have hz := hid (F.out.1 (Or.inl n0))
          have d0 : decide (n < 0) = true := decide_eq_true n0
          clear F
          go_enter Tryz.func85, Tryz.ntmps85
          go_wp2_with fail
          go_at_call 145; refine (rdigits_any _ _ (by omega)).mono ?_; rintro e w1 ⟨rfl, rfl⟩
          rw [Hn.out]
          go_wp2_with fail
          go_ret2
          exact ⟨by rw [hz.out.1, hz.out.2]; rfl, rfl⟩
        · have d0 : decide (n < 0) = false := decide_eq_false n0
          by_cases n12 : 12 < s.size
          · have hz := hid (F.out.1 (Or.inr n12))
            have d12 : decide ((12 : Int) < (s.size : Int)) = true := by simp; omega
            clear F
            go_enter Tryz.func85, Tryz.ntmps85
            go_wp2_with fail
            go_at_call 145; refine (rdigits_any _ _ (by omega)).mono ?_; rintro e w1 ⟨rfl, rfl⟩
            rw [Hn.out]
            go_wp2_with fail
            go_ret2
            exact ⟨by rw [hz.out.1, hz.out.2]; rfl, rfl⟩
          · have hz := hid (F.out.2 (by omega))
            have d12 : decide ((12 : Int) < (s.size : Int)) = false := by simp; omega
            clear F
            have g : -2147483648 ≤ n := by omega
            all_goals
              go_enter Tryz.func85, Tryz.ntmps85
              go_wp2_with fail
              go_at_call 145; refine (rdigits_any _ _ (by omega)).mono ?_; rintro e w1 ⟨rfl, rfl⟩
              rw [Hn.out]
              go_wp2
              go_ret2
              refine ⟨?_, rfl⟩
              rw [hz.out.1, hz.out.2]
              simp
              try omega

/- The values of the kinds. -/
theorem numB_some (l : Bs) : (numB l).isSome = rnumOk l := by rw [numB_ref]; cases rnumOk l <;> rfl
theorem isNum_ok (l : Bs) : isNum l = rnumOk l := numB_some l
theorem code_hats (l : Bs) (h : codesB l = true) : hatsB l = true := by
  unfold codesB at h
  rw [List.all_eq_true] at h
  have : l.count 94 = 0 := by
    rw [List.count_eq_zero]
    intro hm
    have := h 94 hm
    revert this; decide
  unfold hatsB
  rw [this]; rfl
/-- valueOK is Check's own, where there is a value. -/
def rval (k l : Bs) : Bool :=
  if k = [85, 73] then nameB l else if k = [68, 65] then dateB l else if k = [84, 77] then timeB l else if k = [73, 83] then rnumOk l else rtext k l
theorem rval_chk (k l : Bs) (hk : IsKind k) : chkF k l = if rval k l then 0 else 6 := by
  unfold chkF rval
  rcases hk with rfl | rfl | rfl | rfl | rfl | rfl | rfl
  · simp [rtext]
  · simp [rtext, hatsB]
    cases txtB l <;> simp
  · simp only [rtext]
    by_cases hc : codesB l = true
    · have hh := code_hats l hc
      unfold hatsB at hh
      have hc' : l.all codeC = true := hc
      simp [isCodeB, hc, hc', hh]
      cases txtB l <;> simp
    · have hc' : l.all codeC = false := by simpa [codesB] using hc
      have hc2 : codesB l = false := hc'
      simp [isCodeB, hc2, hc']
  · simp
  · simp
  · simp
  · simp [isNum_ok]
end Go.Proofs.YtaokifbpakbgdaaGreatDoor

/- The document's answer (package folioref), sixth part: valueOK, Check, seconds, starts. -/
namespace Go.Proofs.YtaokifbpakbgdaaGreatDoor
open Go.RowKit

theorem rvalue_any (k s : ByteArray) (w : World) (hs : s.size < 4294967281) (h0 : 0 < s.size) :
    Calls Tryz.prog 43 #[.string k, .string s] w fun e w' => e = .returned (.bool (rval k.data.toList s.data.toList)) ∧ Up w w' := by
  by_cases h1 : k.toList = [85, 73]
  · have R : Hid (rval k.data.toList s.data.toList = nameB s.data.toList) := by unfold Hid rval; rw [← Lib.toList_data k, h1]; rfl
    go_enter Tryz.func43, Tryz.ntmps43
    go_wp2_with (go_at_call 82; refine (rname_any _ _ hs).mono ?_; rintro e w' ⟨rfl, hup⟩)
    go_ret
    exact ⟨vret_bool R.out.symm, hup⟩
  have g1 : (k.toList == [85, 73]) = false := by simpa using h1
  by_cases h2 : k.toList = [68, 65]
  · have R : Hid (rval k.data.toList s.data.toList = dateB s.data.toList) := by unfold Hid rval; rw [← Lib.toList_data k, h2]; rfl
    go_enter Tryz.func43, Tryz.ntmps43
    go_wp2_with (go_at_call 83; refine (rdate_any _ _).mono ?_; rintro e w' ⟨rfl, hup⟩)
    go_ret
    exact ⟨vret_bool R.out.symm, hup⟩
  have g2 : (k.toList == [68, 65]) = false := by simpa using h2
  by_cases h3 : k.toList = [84, 77]
  · have R : Hid (rval k.data.toList s.data.toList = timeB s.data.toList) := by unfold Hid rval; rw [← Lib.toList_data k, h3]; rfl
    go_enter Tryz.func43, Tryz.ntmps43
    go_wp2_with (go_at_call 84; refine (rtime_any _ _).mono ?_; rintro e w' ⟨rfl, rfl⟩)
    go_ret
    exact ⟨vret_bool R.out.symm, Up.refl _⟩
  have g3 : (k.toList == [84, 77]) = false := by simpa using h3
  by_cases h4 : k.toList = [73, 83]
  · have R : Hid (rval k.data.toList s.data.toList = rnumOk s.data.toList) := by unfold Hid rval; rw [← Lib.toList_data k, h4]; rfl
    go_enter Tryz.func43, Tryz.ntmps43
    go_wp2_with (go_at_call 85; refine (rnumber_any _ _ (by omega)).mono ?_; rintro e w' ⟨rfl, rfl⟩)
    go_ret
    exact ⟨vret_bool R.out.symm, Up.refl _⟩
  have g4 : (k.toList == [73, 83]) = false := by simpa using h4
  have R : Hid (rval k.data.toList s.data.toList = rtext k.data.toList s.data.toList) := by
    unfold Hid rval; rw [← Lib.toList_data k, if_neg h1, if_neg h2, if_neg h3, if_neg h4]
  clear h1 h2 h3 h4
  go_enter Tryz.func43, Tryz.ntmps43
  go_wp2_with (go_at_call 86; refine (rtext_any _ _ _ hs h0).mono ?_; rintro e w' ⟨rfl, hup⟩)
  go_ret
  exact ⟨vret_bool R.out.symm, hup⟩

def isKindB (k : Bs) : Bool := decide (k = [85, 73]) || decide (k = [67, 83]) || decide (k = [76, 79]) || decide (k = [80, 78]) || decide (k = [68, 65]) || decide (k = [84, 77]) || decide (k = [73, 83]) || decide (k = [83, 81])
theorem vris_any (k : ByteArray) (w : World) :
    Calls Tryz.prog 42 #[.string k] w fun e w' => e = .returned (.bool (isKindB k.data.toList)) ∧ w' = w := by
  go_enter Tryz.func42, Tryz.ntmps42
  go_wp2
  all_goals go_ret
  all_goals (refine ⟨vret_bool ?_, rfl⟩)
  all_goals (rw [← Lib.toList_data]; unfold isKindB; simp_all)
theorem kind_cases (k : Bs) : (IsKind k ∧ isKindB k = true ∧ ¬ k = [83, 81]) ∨ (chk k = (fun _ => 2) ∧ (isKindB k = false ∨ k = [83, 81])) := by
  by_cases h : IsKind k
  · left
    refine ⟨h, ?_, ?_⟩
    · rcases h with rfl | rfl | rfl | rfl | rfl | rfl | rfl <;> rfl
    · rcases h with rfl | rfl | rfl | rfl | rfl | rfl | rfl <;> decide
  · right
    unfold IsKind at h
    simp only [not_or] at h
    obtain ⟨a, b, c, d, e, f, g⟩ := h
    refine ⟨?_, ?_⟩
    · funext l
      unfold chk chkF
      rw [if_neg c, if_neg b, if_neg a, if_neg d, if_neg e, if_neg f, if_neg g, if_neg (by omega)]
    · by_cases s : k = [83, 81]
      · exact Or.inr s
      · left; unfold isKindB; simp [a, b, c, d, e, f, g, s]
theorem rCheck_any (k s : ByteArray) (w : World) (hs : s.size < 4294967281) :
    Calls Tryz.prog 14 #[.string k, .string s] w fun e w' => e = .returned (.int .i64 (chk k.data.toList s.data.toList)) ∧ Up w w' := by
  rcases kind_cases k.data.toList with ⟨h1, h2, h3⟩ | ⟨h1, h2⟩
  · have HK := hid h1
    have g3 : (k.toList == [83, 81]) = false := by rw [Lib.toList_data]; simpa using h3
    clear h1 h3
    by_cases he : s.toList = []
    · have R : Hid (chk k.data.toList s.data.toList = 0) := by
        unfold Hid chk
        rw [← Lib.toList_data s, he]
        have : chkF k.data.toList [] = 6 := by rcases HK.out with h | h | h | h | h | h | h <;> rw [h] <;> decide
        rw [if_pos ⟨this, rfl⟩]
      go_enter Tryz.func14, Tryz.ntmps14
      go_wp2_with (go_at_call 42; refine (vris_any _ _).mono ?_; rintro e w' ⟨rfl, rfl⟩)
      go_ret
      exact ⟨vret_int R.out.symm, Up.refl _⟩
    · have h0 : 0 < s.size := by
        rcases Nat.eq_zero_or_pos s.size with h | h
        · exact absurd (by rw [Lib.toList_data]; exact List.eq_nil_of_length_eq_zero (by rw [len_list]; exact h)) he
        · exact h
      have hie : s.toList.isEmpty = false := by simpa using he
      have R : Hid (chk k.data.toList s.data.toList = if rval k.data.toList s.data.toList then 0 else 6) := by
        unfold Hid chk
        rw [if_neg (fun c => he (by rw [Lib.toList_data]; exact c.2)), rval_chk _ _ HK.out]
      cases hv : rval k.data.toList s.data.toList
      all_goals
        rw [hv] at R
        go_enter Tryz.func14, Tryz.ntmps14
        go_wp2_with (first
          | (go_at_call 42; refine (vris_any _ _).mono ?_; rintro e w' ⟨rfl, rfl⟩)
          | (go_at_call 43; refine (rvalue_any _ _ _ hs h0).mono ?_; rintro e w' ⟨rfl, hup⟩))
        go_ret
        exact ⟨vret_int R.out.symm, hup⟩
  · have R : Hid (chk k.data.toList s.data.toList = 2) := by unfold Hid; rw [h1]
    clear h1
    rcases h2 with h2 | h2
    · go_enter Tryz.func14, Tryz.ntmps14
      go_wp2_with (go_at_call 42; refine (vris_any _ _).mono ?_; rintro e w' ⟨rfl, rfl⟩)
      go_ret
      exact ⟨vret_int R.out.symm, Up.refl _⟩
    · have h2' : k.toList = [83, 81] := by rw [Lib.toList_data]; exact h2
      have h3 : isKindB k.data.toList = true := by rw [h2]; rfl
      clear h2
      go_enter Tryz.func14, Tryz.ntmps14
      go_wp2_with (go_at_call 42; refine (vris_any _ _).mono ?_; rintro e w' ⟨rfl, rfl⟩)
      go_ret
      exact ⟨vret_int R.out.symm, Up.refl _⟩
end Go.Proofs.YtaokifbpakbgdaaGreatDoor

/- Package folioref on archives: inItems, described. -/
namespace Go.Proofs.YtaokifbpakbgdaaGreatDoor
open Go.RowKit

/-- What is wrong with Word and Meaning in an item, in items: the first. -/
def itE {n : Nat} (v : Bool) : List (El (n + 1)) → Int
  | [] => 0
  | y :: l => if isWord y.1 = true then (if y.2.1 ≠ LO then 2 else if v = true ∧ chk LO y.2.2.1 ≠ 0 then 6 else itE v l) else itE v l
def inE {n : Nat} (v : Bool) (its : Its (n + 1)) : Int := errI (itE v) its
theorem itE_zero {n : Nat} (v : Bool) : ∀ l : List (El (n + 1)), itE v l = 0 ↔ l.any (badY v) = false
  | [] => by simp [itE]
  | y :: l => by
    have ih := itE_zero v l
    rw [itE, List.any_cons, badY]
    by_cases h1 : isWord y.1 = true
    · rw [if_pos h1, h1]
      by_cases h2 : y.2.1 ≠ LO
      · rw [if_pos h2, decide_eq_true h2]; simp
      · rw [if_neg h2, decide_eq_false h2]
        by_cases h3 : v = true ∧ chk LO y.2.2.1 ≠ 0
        · rw [if_pos h3, h3.1, decide_eq_true h3.2]; simp
        · rw [if_neg h3, ih]
          have : (v && decide (chk LO y.2.2.1 ≠ 0)) = false := by
            cases v
            · rfl
            · rw [Bool.true_and, decide_eq_false (fun h => h3 ⟨rfl, h⟩)]
          rw [this]; simp
    · rw [if_neg h1, ih]
      have : isWord y.1 = false := by simpa using h1
      rw [this]; simp
theorem itE_false {n : Nat} : ∀ l : List (El (n + 1)), itE false l = if l.any (badY false) = true then 2 else 0
  | [] => by simp [itE]
  | y :: l => by
    have ih := itE_false l
    rw [itE, List.any_cons, badY]
    by_cases h1 : isWord y.1 = true
    · rw [if_pos h1, h1]
      by_cases h2 : y.2.1 ≠ LO
      · rw [if_pos h2, decide_eq_true h2]; simp
      · rw [if_neg h2, decide_eq_false h2, if_neg (by simp), ih]; simp
    · rw [if_neg h1, ih]
      have : isWord y.1 = false := by simpa using h1
      rw [this]; simp
theorem inE_zero {n : Nat} (v : Bool) : ∀ its : Its (n + 1), inE v its = 0 ↔ badI v its = false
  | [] => by simp [inE, errI, badI]
  | s :: l => by
    have ih := inE_zero v l
    have hs := itE_zero v s
    unfold inE badI at ih ⊢
    rw [errI, List.any_cons]
    by_cases h : itE v s = 0
    · rw [if_pos h, ih, hs.1 h]; simp
    · rw [if_neg h]
      have : s.any (badY v) = true := by
        cases hc : s.any (badY v) with
        | true => rfl
        | false => exact absurd (hs.2 hc) h
      rw [this]; simp [h]
theorem inE_false {n : Nat} : ∀ its : Its (n + 1), inE false its = if badI false its = true then 2 else 0
  | [] => by simp [inE, errI, badI]
  | s :: l => by
    have ih := inE_false l
    have hs := itE_false s
    unfold inE badI at ih ⊢
    rw [errI, List.any_cons]
    by_cases h : s.any (badY false) = true
    · rw [if_pos h] at hs
      rw [if_neg (by rw [hs]; decide), hs, h]; simp
    · rw [if_neg h] at hs
      have h' : s.any (badY false) = false := by simpa using h
      rw [if_pos hs, ih, h']; simp
theorem itE_drop {n : Nat} (v : Bool) {l : List (El (n + 1))} {k : Nat} (h : k < l.length) : itE v (l.drop k) = if isWord l[k].1 = true then (if l[k].2.1 ≠ LO then 2 else if v = true ∧ chk LO l[k].2.2.1 ≠ 0 then 6 else itE v (l.drop (k + 1))) else itE v (l.drop (k + 1)) := by
  rw [List.drop_eq_getElem_cons h]; rfl
theorem inE_drop {n : Nat} (v : Bool) {l : Its (n + 1)} {k : Nat} (h : k < l.length) : inE v (l.drop k) = if itE v l[k] = 0 then inE v (l.drop (k + 1)) else itE v l[k] := by
  rw [List.drop_eq_getElem_cons h]; rfl
set_option maxRecDepth 20000 in
set_option maxHeartbeats 1000000 in
theorem rinItems_any (n : Nat) (F : Nat → Prop) (w : World) (v : Value) (its : Its (n + 1)) (vals : Bool) (h : RdI w F (n + 1) v its) (hl : its.length ≤ 8) (hs : ∀ s ∈ its, s.length ≤ 24) (hv : ∀ s ∈ its, ∀ y ∈ s, y.2.2.1.length ≤ 64) :
    Calls Tryz.prog 162 #[v, .bool vals] w fun e w' => e = .returned (.int .i64 (inE vals its)) ∧ Below w.heap.size w w' := by
  obtain ⟨ad, cap, rfl⟩ := h.slice
  have H := hid h
  have HS := hid hs
  have HV := hid hv
  clear h hs hv
  go_enter Tryz.func162, Tryz.ntmps162
  go_wp2_with fail
  go_loopw [5] (fun i wr => ∃ k : Nat, k ≤ its.length ∧ i = .int .i64 k ∧ Hid (inE vals its = inE vals (its.drop k)) ∧ Hid (Below w.heap.size w wr)) (fun i _ => its.length - (intOf i).toNat)
  case atStart => exact ⟨0, Nat.zero_le _, rfl, rfl, Below.refl _ _⟩
  case round =>
    obtain ⟨k, hk, rfl, hsp, hU⟩ := hrel
    by_cases hkl : k < its.length
    · have hat := hid (H.out.at (List.getElem?_eq_getElem hkl))
      obtain ⟨a, ad2, cap2, rfl, _, d0, hrd⟩ := hat.out
      have D0 := hid d0
      have hsl := HS.out _ (List.getElem_mem hkl)
      have hvl := hid (HV.out _ (List.getElem_mem hkl))
      have hst := hid (inE_drop vals hkl)
      have hrd2 := hid hrd
      clear hrd hat d0
      generalize its[k] = s at D0 hrd2 hst hsl hvl
      go_wp2_with fail
      go_loopw [6] (fun i wq => ∃ q : Nat, q ≤ s.length ∧ i = .int .i64 q ∧ Hid (itE vals s = itE vals (s.drop q)) ∧ Hid (Below w.heap.size w wq)) (fun i _ => s.length - (intOf i).toNat)
      case atStart => exact ⟨0, Nat.zero_le _, rfl, rfl, hU⟩
      case round =>
        obtain ⟨q, hq, rfl, hsq, hV⟩ := hrel
        have c0 := hV.out.cell (World.block_lt_of_cell? _ _ D0.out) |>.trans D0.out
        by_cases hql : q < s.length
        · have hat := hid (hrd2.out.at (List.getElem?_eq_getElem hql))
          obtain ⟨a2, ad3, cap3, e2, _, f0, f1, f2, f3, _⟩ := hat.out
          subst e2
          have g0 := hV.out.cell (World.block_lt_of_cell? _ _ f0) |>.trans f0
          have g1 := hV.out.cell (World.block_lt_of_cell? _ _ f1) |>.trans f1
          have g2 := hV.out.cell (World.block_lt_of_cell? _ _ f2) |>.trans f2
          have g3 := hV.out.cell (World.block_lt_of_cell? _ _ f3) |>.trans f3
          have hyl := hvl.out _ (List.getElem_mem hql)
          have hsy := hid (itE_drop vals hql)
          clear hat f0 f1 f2 f3
          generalize s[q] = y at g0 g1 g2 g3 hyl hsy
          have hXc := (Four.new wr (.int .i64 y.1) (.string (bs y.2.1)) (.string (bs y.2.2.1)) (.slice ad3 y.2.2.2.length cap3)).cells
          obtain ⟨⟨x0, x1, x2, x3⟩, _⟩ := hXc
          have V1 := hid (Below.alloc hV.out hV.out.size (.cells #[.int .i64 y.1, .string (bs y.2.1), .string (bs y.2.2.1), .slice ad3 y.2.2.2.length cap3] 73))
          have e1 := bs_toList y.2.1
          by_cases hw : isWord y.1 = true
          · have hor : y.1 = 524544 ∨ y.1 = 524548 := by simpa [isWord] using hw
            have hs1 := hid (hsy.out.trans (if_pos hw))
            by_cases hk2 : y.2.1 = [76, 79]
            · have hs2 := hid (hs1.out.trans (if_neg (fun h => h hk2)))
              have c1 : ∀ W : World, Calls Tryz.prog 14 #[.string ⟨#[76, 79]⟩, .string (bs y.2.2.1)] W fun e w' => e = .returned (.int .i64 (chk LO y.2.2.1)) ∧ Up W w' := fun W => rCheck_any ⟨#[76, 79]⟩ (bs y.2.2.1) W (by rw [bs_size]; omega)
              have hkb : (y.2.1 == [76, 79]) = true := by simpa using hk2
              have C1 := hid c1
              clear c1 hw hsy hs1 hk2
              generalize chk LO y.2.2.1 = ee at C1 hs2
              have t1 : (y.1 != 524544) = true ∧ (y.1 != 524548) = false ∨ (y.1 != 524544) = false := by
                rcases hor with h | h
                · exact Or.inr (by simpa using h)
                · exact Or.inl ⟨by simp [h], by simp [h]⟩
              clear hor
              rcases t1 with ⟨t1, t2⟩ | t1
              all_goals
                go_wp2_with fail
                go_at_call 14
                refine (C1.out _).mono ?_
                rintro e w2 ⟨rfl, u2⟩
                have V2 := hid (V1.out.trans (Below.mono u2 V1.out.size))
                clear u2
                cases vals
                · have hs3 := hid (hs2.out.trans (if_neg (by simp)))
                  clear hs2
                  go_wp2
                  go_roundw
                  case rel => exact ⟨q + 1, by omega, by go_num, hsq.out.trans hs3.out, V2⟩
                  case measure => simp [intOf]; omega
                · by_cases he : ee = 0
                  · have hs3 := hid (hs2.out.trans (if_neg (fun h => h.2 he)))
                    subst he
                    clear hs2
                    go_wp2
                    go_roundw
                    case rel => exact ⟨q + 1, by omega, by go_num, hsq.out.trans hs3.out, V2⟩
                    case measure => simp [intOf]; omega
                  · have h6 : itE true s = 6 := by rw [hsq.out, hs2.out, if_pos ⟨rfl, he⟩]
                    have hs3 := hid (show inE true its = 6 by rw [hsp.out, hst.out, if_neg (by rw [h6]; decide), h6])
                    clear h6
                    have he2 : (ee != 0) = true := by simpa using he
                    clear hs2 he
                    go_wp2
                    go_ret
                    exact ⟨ret_int hs3.out.symm, V2.out⟩
            · have hs3 := hid (show inE vals its = 2 by rw [hsp.out, hst.out, hsq.out, hs1.out, if_pos hk2, if_neg (by decide)])
              have hkb : (y.2.1 == [76, 79]) = false := by simpa using hk2
              clear hw hsy hs1 hk2
              have t1 : (y.1 != 524544) = true ∧ (y.1 != 524548) = false ∨ (y.1 != 524544) = false := by
                rcases hor with h | h
                · exact Or.inr (by simpa using h)
                · exact Or.inl ⟨by simp [h], by simp [h]⟩
              clear hor
              rcases t1 with ⟨t1, t2⟩ | t1
              all_goals
                go_wp2
                go_ret
                exact ⟨ret_int hs3.out.symm, V1.out⟩
          · have hs1 := hid (hsy.out.trans (if_neg hw))
            have t1 : (y.1 != 524544) = true := by
              rw [isWord] at hw
              cases hc : (y.1 == 524544) with
              | true => rw [hc] at hw; exact absurd rfl hw
              | false => rw [bne, hc]; rfl
            have t2 : (y.1 != 524548) = true := by
              rw [isWord] at hw
              cases hc : (y.1 == 524548) with
              | true => rw [hc, Bool.or_true] at hw; exact absurd rfl hw
              | false => rw [bne, hc]; rfl
            clear hw hsy
            go_wp2
            go_roundw
            case rel => exact ⟨q + 1, by omega, by go_num, hsq.out.trans hs1.out, V1⟩
            case measure => simp [intOf]; omega
        · have hz := hid (show itE vals s = 0 by rw [hsq.out, List.drop_eq_nil_of_le (by omega)]; rfl)
          have hs3 := hid (show inE vals its = inE vals (its.drop (k + 1)) by rw [hsp.out, hst.out, if_pos hz.out])
          clear hz hst
          go_wp2
          go_roundw
          case rel => exact ⟨k + 1, by omega, by go_num, hs3, hV⟩
          case measure => simp [intOf]; omega
    · have hF := hid (show inE vals its = 0 by rw [hsp.out, List.drop_eq_nil_of_le (by omega)]; rfl)
      go_wp2
      go_ret
      exact ⟨ret_int hF.out.symm, hU.out⟩
end Go.Proofs.YtaokifbpakbgdaaGreatDoor

/- Package folioref on archives: described. -/
namespace Go.Proofs.YtaokifbpakbgdaaGreatDoor
open Go.RowKit

theorem any_drop {α : Type} (p : α → Bool) {l : List α} {k : Nat} (h : k < l.length) : (l.drop k).any p = (p l[k] || (l.drop (k + 1)).any p) := by
  rw [List.drop_eq_getElem_cons h, List.any_cons]
theorem Sane.at {n : Nat} {l : List (El (n + 2))} (h : Sane l) {k : Nat} (hk : k < l.length) : l[k].2.2.1.length ≤ 64 ∧ l[k].2.2.2.length ≤ 8 ∧ (∀ s ∈ l[k].2.2.2, s.length ≤ 24) ∧ ∀ s ∈ l[k].2.2.2, ∀ y ∈ s, y.2.2.1.length ≤ 64 := by
  have h1 := h.2 _ (List.getElem_mem hk)
  exact ⟨h1.1, h1.2.1, fun s hs => (h1.2.2 s hs).1, fun s hs => (h1.2.2 s hs).2⟩
set_option maxRecDepth 20000 in
set_option maxHeartbeats 2000000 in
theorem rdescribed_any (n : Nat) (F : Nat → Prop) (w : World) (v : Value) (l : List (El (n + 2))) (h : Rd w F (n + 2) v l) (hS : Sane l) :
    Calls Tryz.prog 99 #[v] w fun e w' => e = .returned (.int .i64 (desE l)) ∧ Below w.heap.size w w' := by
  obtain ⟨ad, cap, rfl⟩ := h.slice
  have H := hid h
  have HS := hid hS
  have hl := hS.1
  clear h hS
  go_enter Tryz.func99, Tryz.ntmps99
  go_wp2_with fail
  go_loopw [3] (fun i wr => ∃ k : Nat, k ≤ l.length ∧ i = .int .i64 k ∧ Hid (l.any bad1 = (l.drop k).any bad1) ∧ Hid (Below w.heap.size w wr)) (fun i _ => l.length - (intOf i).toNat)
  case atStart => exact ⟨0, Nat.zero_le _, rfl, rfl, Below.refl _ _⟩
  case round =>
    obtain ⟨k, hk, rfl, hsp, hU⟩ := hrel
    by_cases hkl : k < l.length
    · have hat := hid (H.out.at (List.getElem?_eq_getElem hkl))
      obtain ⟨a, ad2, cap2, rfl, _, d0, d1, d2, d3, hrd⟩ := hat.out
      have c0 := hU.out.cell (World.block_lt_of_cell? _ _ d0) |>.trans d0
      have c1 := hU.out.cell (World.block_lt_of_cell? _ _ d1) |>.trans d1
      have c3 := hU.out.cell (World.block_lt_of_cell? _ _ d3) |>.trans d3
      have hrd2 := hid hrd
      have hx := hid (HS.out.at hkl)
      have hst := hid (any_drop bad1 hkl)
      clear hrd hat d0 d1 d2 d3
      generalize l[k] = x at c0 c1 c3 hrd2 hst hx
      go_wp2_with fail
      go_at_call 161
      refine (rKind_any _ x.1).mono ?_
      rintro e w1 ⟨rfl, rfl⟩
      have e1 := bs_toList (kindT x.1)
      have e2 := bs_toList x.2.1
      by_cases hkd : kindT x.1 = []
      · have hb : bad1 x = false := by rw [bad1, decide_eq_false (fun h => h hkd), Bool.false_and]
        have hst2 := hid (show l.any bad1 = (l.drop (k + 1)).any bad1 by rw [hsp.out, hst.out, hb, Bool.false_or])
        rw [hkd] at e1 ⊢
        clear hst hkd hb
        go_wp2
        go_roundw
        case rel => exact ⟨k + 1, by omega, by go_num, hst2, hU⟩
        case measure => simp [intOf]; omega
      · have hkb : (kindT x.1 == []) = false := by simpa using hkd
        have hke : (kindT x.1).isEmpty = false := by cases hc : kindT x.1 with | nil => exact absurd hc hkd | cons _ _ => rfl
        have hst2 := hid (show l.any bad1 = ((decide (x.2.1 ≠ kindT x.1) || badI false x.2.2.2) || (l.drop (k + 1)).any bad1) by rw [hsp.out, hst.out, bad1, decide_eq_true hkd, Bool.true_and])
        clear hst hkd
        generalize kindT x.1 = kk at e1 hkb hke hst2
        by_cases hk2 : x.2.1 = kk
        · have hk3 : (x.2.1 == kk) = true := by simpa using hk2
          have hst3 := hid (hst2.out.trans (by rw [decide_eq_false (fun h => h hk2), Bool.false_or]))
          clear hst2 hk2
          go_wp2_with fail
          go_at_call 162
          refine (rinItems_any n F _ _ x.2.2.2 false (hrd2.out.up hU.out) hx.out.2.1 hx.out.2.2.1 hx.out.2.2.2).mono ?_
          rintro e w2 ⟨rfl, u2⟩
          have U2 := hid (hU.out.trans (u2.mono hU.out.size))
          have hI := inE_false x.2.2.2
          clear u2
          by_cases hbi : badI false x.2.2.2 = true
          · rw [if_pos hbi] at hI
            have hF := hid (show desE l = 2 by rw [desE, if_pos (by rw [hst3.out, hbi, Bool.true_or])])
            rw [hI]
            clear hI hst3 hbi
            go_wp2
            go_ret
            exact ⟨ret_int hF.out.symm, U2.out⟩
          · rw [if_neg hbi] at hI
            have hst4 := hid (show l.any bad1 = (l.drop (k + 1)).any bad1 by rw [hst3.out, show badI false x.2.2.2 = false by simpa using hbi, Bool.false_or])
            rw [hI]
            clear hI hst3 hbi
            go_wp2
            go_roundw
            case rel => exact ⟨k + 1, by omega, by go_num, hst4, U2⟩
            case measure => simp [intOf]; omega
        · have hk3 : (x.2.1 == kk) = false := by simpa using hk2
          have hF := hid (show desE l = 2 by rw [desE, if_pos (by rw [hst2.out, decide_eq_true hk2, Bool.true_or, Bool.true_or])])
          clear hst2 hk2
          go_wp2
          go_ret
          exact ⟨ret_int hF.out.symm, hU.out⟩
    · have hB1 := hid (show l.any bad1 = false by rw [hsp.out, List.drop_eq_nil_of_le (by omega)]; rfl)
      clear hsp
      go_wp2_with fail
      go_loopw [6] (fun i wr => ∃ q : Nat, q ≤ l.length ∧ i = .int .i64 q ∧ Hid (l.any bad2 = (l.drop q).any bad2) ∧ Hid (Below w.heap.size w wr)) (fun i _ => l.length - (intOf i).toNat)
      case atStart => exact ⟨0, Nat.zero_le _, rfl, rfl, hU⟩
      case round =>
        obtain ⟨q, hq, rfl, hsp, hU⟩ := hrel
        by_cases hql : q < l.length
        · have hat := hid (H.out.at (List.getElem?_eq_getElem hql))
          obtain ⟨a, ad2, cap2, rfl, _, d0, d1, d2, d3, hrd⟩ := hat.out
          have c0 := hU.out.cell (World.block_lt_of_cell? _ _ d0) |>.trans d0
          have c2 := hU.out.cell (World.block_lt_of_cell? _ _ d2) |>.trans d2
          have c3 := hU.out.cell (World.block_lt_of_cell? _ _ d3) |>.trans d3
          have D2 := hid d2
          have hrd2 := hid hrd
          have hx := hid (HS.out.at hql)
          have hst := hid (any_drop bad2 hql)
          clear hrd hat d0 d1 d2 d3
          generalize l[q] = x at c0 c2 c3 D2 hrd2 hst hx
          go_wp2_with fail
          go_at_call 161
          refine (rKind_any _ x.1).mono ?_
          rintro e w1 ⟨rfl, rfl⟩
          have e1 := bs_toList (kindT x.1)
          by_cases hkd : kindT x.1 = []
          · have hb : bad2 x = false := by rw [bad2, decide_eq_false (fun h => h hkd), Bool.false_and]
            have hst2 := hid (show l.any bad2 = (l.drop (q + 1)).any bad2 by rw [hsp.out, hst.out, hb, Bool.false_or])
            rw [hkd] at e1 ⊢
            clear hst hkd hb
            go_wp2
            go_roundw
            case rel => exact ⟨q + 1, by omega, by go_num, hst2, hU⟩
            case measure => simp [intOf]; omega
          · have hkb : (kindT x.1 == []) = false := by simpa using hkd
            have hke : (kindT x.1).isEmpty = false := by cases hc : kindT x.1 with | nil => exact absurd hc hkd | cons _ _ => rfl
            have hst2 := hid (show l.any bad2 = ((if kindT x.1 = SQ then badI true x.2.2.2 else decide (chk (kindT x.1) x.2.2.1 ≠ 0)) || (l.drop (q + 1)).any bad2) by rw [hsp.out, hst.out, bad2, decide_eq_true hkd, Bool.true_and])
            clear hst hkd
            generalize kindT x.1 = kk at e1 hkb hke hst2
            go_wp2_with fail
            go_at_call 162
            refine (rinItems_any n F _ _ x.2.2.2 true (hrd2.out.up hU.out) hx.out.2.1 hx.out.2.2.1 hx.out.2.2.2).mono ?_
            rintro e w2 ⟨rfl, u2⟩
            have U2 := hid (hU.out.trans (u2.mono hU.out.size))
            have hI := hid (inE_zero true x.2.2.2)
            have c2' := U2.out.cell (World.block_lt_of_cell? _ _ D2.out) |>.trans D2.out
            clear u2
            by_cases hsq : kk = SQ
            · have hk3 : (kk == [83, 81]) = true := by simpa using hsq
              have hst3 := hid (hst2.out.trans (by rw [if_pos hsq]))
              clear hst2 hsq
              generalize inE true x.2.2.2 = ee at hI
              by_cases he : ee = 0
              · have hst4 := hid (show l.any bad2 = (l.drop (q + 1)).any bad2 by rw [hst3.out, hI.out.1 he, Bool.false_or])
                subst he
                clear hI hst3
                go_wp2
                go_roundw
                case rel => exact ⟨q + 1, by omega, by go_num, hst4, U2⟩
                case measure => simp [intOf]; omega
              · have hF := hid (show desE l = 6 by
                  have hb : badI true x.2.2.2 = true := by
                    cases hc : badI true x.2.2.2 with
                    | true => rfl
                    | false => exact absurd (hI.out.2 hc) he
                  rw [desE, if_neg (by rw [hB1.out]; decide), if_pos (by rw [hst3.out, hb, Bool.true_or])])
                have he2 : (ee != 0) = true := by simpa using he
                clear hI hst3 he
                go_wp2
                go_ret
                exact ⟨ret_int hF.out.symm, U2.out⟩
            · have hk3 : (kk == [83, 81]) = false := by simpa using hsq
              have hst3 := hid (hst2.out.trans (by rw [if_neg hsq]))
              have C1 := hid (fun W : World => rCheck_any (bs kk) (bs x.2.2.1) W (by have := hx.out.1; rw [bs_size]; omega))
              clear hst2 hsq
              go_wp2_with fail
              go_at_call 14
              refine (C1.out _).mono ?_
              rintro e w3 ⟨rfl, u3⟩
              have U3 := hid (U2.out.trans (Below.mono u3 U2.out.size))
              clear u3 C1
              change Hid (l.any bad2 = (decide (chk (bs kk).data.toList (bs x.2.2.1).data.toList ≠ 0) || (l.drop (q + 1)).any bad2)) at hst3
              generalize chk (bs kk).data.toList (bs x.2.2.1).data.toList = ee at hst3
              by_cases he : ee = 0
              · have hst4 := hid (show l.any bad2 = (l.drop (q + 1)).any bad2 by rw [hst3.out, decide_eq_false (fun h => h he), Bool.false_or])
                subst he
                clear hst3
                go_wp2
                go_roundw
                case rel => exact ⟨q + 1, by omega, by go_num, hst4, U3⟩
                case measure => simp [intOf]; omega
              · have hF := hid (show desE l = 6 by rw [desE, if_neg (by rw [hB1.out]; decide), if_pos (by rw [hst3.out, decide_eq_true he, Bool.true_or])])
                have he2 : (ee != 0) = true := by simpa using he
                clear hst3 he
                go_wp2
                go_ret
                exact ⟨ret_int hF.out.symm, U3.out⟩
        · have hB2 := hid (show l.any bad2 = false by rw [hsp.out, List.drop_eq_nil_of_le (by omega)]; rfl)
          clear hsp
          go_wp2_with fail
          go_at_call 100
          refine (rnames_any (n + 1) F _ _ l (H.out.up hU.out) hl).mono ?_
          rintro e w2 ⟨g, capg, rfl, _, hN, u2⟩
          have U2 := hid (hU.out.trans (u2.mono hU.out.size))
          have N2 := hid hN
          clear u2 hN
          go_wp2_with fail
          go_loopw [10] (fun i wr => ∃ j : Nat, j ≤ 4 ∧ i = .int .i64 j ∧ wr = w2 ∧ Hid (∀ m, m < j → nm m l ≠ [])) (fun i _ => 4 - (intOf i).toNat)
          case atStart => exact ⟨0, by omega, rfl, rfl, fun m hm => by omega⟩
          case round =>
            obtain ⟨j, hj, rfl, rfl, hsp⟩ := hrel
            by_cases hjl : j < 4
            · have n1 := N2.out j hjl
              have e3 := bs_toList (nm j l)
              by_cases hs : nm j l = []
              · have hF := hid (show desE l = 7 by
                  rw [desE, if_neg (by rw [hB1.out]; decide), if_neg (by rw [hB2.out]; decide), if_pos]
                  rcases (show j = 0 ∨ j = 1 ∨ j = 2 ∨ j = 3 by omega) with rfl | rfl | rfl | rfl
                  · exact Or.inl hs
                  · exact Or.inr (Or.inl hs)
                  · exact Or.inr (Or.inr (Or.inl hs))
                  · exact Or.inr (Or.inr (Or.inr hs)))
                rw [hs] at n1 e3
                clear hs
                go_wp2
                go_ret
                exact ⟨ret_int hF.out.symm, U2.out⟩
              · have hb : (nm j l).isEmpty = false := by cases hc : nm j l with | nil => exact absurd hc hs | cons _ _ => rfl
                have hb2 : (nm j l == []) = false := by simpa using hs
                have hsp2 : Hid (∀ m, m < j + 1 → nm m l ≠ []) := fun m hm => by
                  by_cases e : m = j
                  · subst e; exact hs
                  · exact hsp.out m (by omega)
                clear hs
                generalize nm j l = s at n1 e3 hb hb2
                go_wp2
                go_roundw
                case rel => exact ⟨j + 1, by omega, by go_num, trivial, hsp2⟩
                case measure => simp [intOf]; omega
            · have hF := hid (show desE l = 0 by
                rw [desE, if_neg (by rw [hB1.out]; decide), if_neg (by rw [hB2.out]; decide), if_neg]
                rintro (h | h | h | h)
                · exact hsp.out 0 (by omega) h
                · exact hsp.out 1 (by omega) h
                · exact hsp.out 2 (by omega) h
                · exact hsp.out 3 (by omega) h)
              go_wp2
              go_ret
              exact ⟨ret_int hF.out.symm, U2.out⟩
end Go.Proofs.YtaokifbpakbgdaaGreatDoor
