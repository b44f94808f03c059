/-
  The document's answer (package folioref), fifth part: number, valueOK, Check.
-/
import Derived.Test.YtaokifbpakbgdaaGreatDoorRef4
namespace Go.Proofs.YtaokifbpakbgdaaGreatDoor
open Go.RowKit

theorem head_list {s : ByteArray} (h0 : 0 < s.size) : s.data.toList.head? = some s[0] := head_of h0
theorem rdig_bd (l : Bs) : -1 ≤ rdig l ∧ rdig l < 1000000000000 := by
  unfold rdig
  split
  · rename_i h
    have := num_lt l h.2.2 12 h.2.1 1000000000000 rfl
    omega
  · omega
set_option maxHeartbeats 1000000 in
theorem rnumber_any (s : ByteArray) (w : World) (hs : s.size ≤ 9223372036854775806) :
    Calls Tryz.prog 85 #[.string s] w fun e w' => e = .returned (.tuple #[.int .i64 (rnumV s.data.toList), .bool (rnumOk s.data.toList)]) ∧ w' = w := by
  have hl : Hid (s.data.toList.length = s.size) := len_list s
  have fin : ∀ (sg : Int) (t : Bs), (sg = 1 ∨ sg = -1) → sgn s.data.toList = sg → tl s.data.toList = t →
      Hid ((rdig t < 0 ∨ 12 < s.size → rnumV s.data.toList = 0 ∧ rnumOk s.data.toList = false) ∧ (¬ (rdig t < 0 ∨ 12 < s.size) → rnumV s.data.toList = sg * rdig t ∧ rnumOk s.data.toList = (decide (-2147483648 ≤ sg * rdig t) && decide (sg * rdig t ≤ 2147483647)))) := by
    intro sg t _ e1 e2
    constructor
    · intro h
      have hb : rnumBad s.data.toList = true := by unfold rnumBad; rw [e2, hl.out]; simpa using h
      unfold rnumV rnumOk
      rw [hb]
      exact ⟨rfl, rfl⟩
    · intro h
      have hb : rnumBad s.data.toList = false := by unfold rnumBad; rw [e2, hl.out]; simpa using h
      unfold rnumV rnumOk
      rw [hb, e1, e2]
      exact ⟨rfl, rfl⟩
  by_cases he : s.toList = []
  · have e0 : s.data.toList = [] := by rw [← Lib.toList_data]; exact he
    have F := fin 1 s.data.toList (Or.inl rfl) (by rw [e0]; rfl) (by rw [e0]; rfl)
    have hr : Hid (rdig s.data.toList = -1) := by unfold Hid; rw [e0]; rfl
    have hz : Hid (rnumV s.data.toList = 0 ∧ rnumOk s.data.toList = false) := F.out.1 (Or.inl (by rw [hr.out]; omega))
    clear F fin
    go_enter Tryz.func85, Tryz.ntmps85
    go_wp2_with fail
    go_at_call 145; refine (rdigits_any _ _ (by omega)).mono ?_; rintro e w1 ⟨rfl, rfl⟩
    rw [hr.out]
    go_wp2_with fail
    go_ret2
    exact ⟨by rw [hz.out.1, hz.out.2]; rfl, rfl⟩
  · have h0 : 0 < s.size := by
      rcases Nat.eq_zero_or_pos s.size with h | h
      · exact absurd (by rw [Lib.toList_data]; exact List.eq_nil_of_length_eq_zero (by rw [len_list]; exact h)) he
      · exact h
    have hie : s.toList.isEmpty = false := by simpa using he
    have hd1 : Hid ((s.extract 1 s.size).data.toList = s.data.toList.drop 1) := by
      unfold Hid; rw [sub_data, List.take_of_length_le (by simp)]
    by_cases h45 : (s[0].toNat : Int) = 45
    · have F := fin (-1) (s.data.toList.drop 1) (Or.inr rfl) (by unfold sgn; rw [head_list h0, (byte_eq 45).2 h45]; rfl) (by unfold tl; rw [head_list h0, (byte_eq 45).2 h45]; rfl)
      rw [← hd1.out] at F
      have bd := rdig_bd (s.extract 1 s.size).data.toList
      generalize hn : rdig (s.extract 1 s.size).data.toList = n at F bd
      have Hn := hid hn
      clear hn fin
      by_cases n0 : n < 0
      · have hz := hid (F.out.1 (Or.inl n0))
        have d0 : decide (n < 0) = true := decide_eq_true n0
        clear F
        go_enter Tryz.func85, Tryz.ntmps85
        go_wp2_with fail
        go_at_call 145; refine (rdigits_any _ _ (by rw [ByteArray.size_extract]; omega)).mono ?_; rintro e w1 ⟨rfl, rfl⟩
        rw [Hn.out]
        go_wp2_with fail
        go_ret2
        exact ⟨by rw [hz.out.1, hz.out.2]; rfl, rfl⟩
      · have d0 : decide (n < 0) = false := decide_eq_false n0
        by_cases n12 : 12 < s.size
        · have hz := hid (F.out.1 (Or.inr n12))
          have d12 : decide ((12 : Int) < (s.size : Int)) = true := by simp; omega
          clear F
          go_enter Tryz.func85, Tryz.ntmps85
          go_wp2_with fail
          go_at_call 145; refine (rdigits_any _ _ (by rw [ByteArray.size_extract]; omega)).mono ?_; rintro e w1 ⟨rfl, rfl⟩
          rw [Hn.out]
          go_wp2_with fail
          go_ret2
          exact ⟨by rw [hz.out.1, hz.out.2]; rfl, rfl⟩
        · have hz := hid (F.out.2 (by omega))
          have d12 : decide ((12 : Int) < (s.size : Int)) = false := by simp; omega
          clear F
          by_cases g : -2147483648 ≤ (-1) * n
          all_goals
            go_enter Tryz.func85, Tryz.ntmps85
            go_wp2_with fail
            go_at_call 145; refine (rdigits_any _ _ (by rw [ByteArray.size_extract]; omega)).mono ?_; rintro e w1 ⟨rfl, rfl⟩
            rw [Hn.out]
            go_wp2
            go_ret2
            refine ⟨?_, rfl⟩
            rw [hz.out.1, hz.out.2]
            simp
            try omega
    · have n45 : ((s[0].toNat : Int) == 45) = false := by simpa using h45
      by_cases h43 : (s[0].toNat : Int) = 43
      · have F := fin 1 (s.data.toList.drop 1) (Or.inl rfl) (by unfold sgn; rw [head_list h0, (byte_eq 43).2 h43]; rfl) (by unfold tl; rw [head_list h0, (byte_eq 43).2 h43]; rfl)
        rw [← hd1.out] at F
        have bd := rdig_bd (s.extract 1 s.size).data.toList
        generalize hn : rdig (s.extract 1 s.size).data.toList = n at F bd
        have Hn := hid hn
        clear hn fin
        by_cases n0 : n < 0
        · have hz := hid (F.out.1 (Or.inl n0))
          have d0 : decide (n < 0) = true := decide_eq_true n0
          clear F
          go_enter Tryz.func85, Tryz.ntmps85
          go_wp2_with fail
          go_at_call 145; refine (rdigits_any _ _ (by rw [ByteArray.size_extract]; omega)).mono ?_; rintro e w1 ⟨rfl, rfl⟩
          rw [Hn.out]
          go_wp2_with fail
          go_ret2
          exact ⟨by rw [hz.out.1, hz.out.2]; rfl, rfl⟩
        · have d0 : decide (n < 0) = false := decide_eq_false n0
          by_cases n12 : 12 < s.size
          · have hz := hid (F.out.1 (Or.inr n12))
            have d12 : decide ((12 : Int) < (s.size : Int)) = true := by simp; omega
            clear F
            go_enter Tryz.func85, Tryz.ntmps85
            go_wp2_with fail
            go_at_call 145; refine (rdigits_any _ _ (by rw [ByteArray.size_extract]; omega)).mono ?_; rintro e w1 ⟨rfl, rfl⟩
            rw [Hn.out]
            go_wp2_with fail
            go_ret2
            exact ⟨by rw [hz.out.1, hz.out.2]; rfl, rfl⟩
          · have hz := hid (F.out.2 (by omega))
            have d12 : decide ((12 : Int) < (s.size : Int)) = false := by simp; omega
            clear F
            have g : -2147483648 ≤ n := by omega
            all_goals
              go_enter Tryz.func85, Tryz.ntmps85
              go_wp2_with fail
              go_at_call 145; refine (rdigits_any _ _ (by rw [ByteArray.size_extract]; omega)).mono ?_; rintro e w1 ⟨rfl, rfl⟩
              rw [Hn.out]
              go_wp2
              go_ret2
              refine ⟨?_, rfl⟩
              rw [hz.out.1, hz.out.2]
              simp
              try omega
      · have n43 : ((s[0].toNat : Int) == 43) = false := by simpa using h43
        have F := fin 1 s.data.toList (Or.inl rfl) (by unfold sgn; rw [head_list h0, if_neg (fun e => h45 ((byte_eq 45).1 (Option.some.inj e)))]) (by unfold tl; rw [head_list h0, if_neg (fun e => e.elim (fun e => h43 ((byte_eq 43).1 (Option.some.inj e))) (fun e => h45 ((byte_eq 45).1 (Option.some.inj e))))])
        have bd := rdig_bd s.data.toList
        generalize hn : rdig s.data.toList = n at F bd
        have Hn := hid hn
        clear hn fin
        by_cases n0 : n < 0
        · have hz := hid (F.out.1 (Or.inl n0))
          have d0 : decide (n < 0) = true := decide_eq_true n0
          clear F
          go_enter Tryz.func85, Tryz.ntmps85
          go_wp2_with fail
          go_at_call 145; refine (rdigits_any _ _ (by omega)).mono ?_; rintro e w1 ⟨rfl, rfl⟩
          rw [Hn.out]
          go_wp2_with fail
          go_ret2
          exact ⟨by rw [hz.out.1, hz.out.2]; rfl, rfl⟩
        · have d0 : decide (n < 0) = false := decide_eq_false n0
          by_cases n12 : 12 < s.size
          · have hz := hid (F.out.1 (Or.inr n12))
            have d12 : decide ((12 : Int) < (s.size : Int)) = true := by simp; omega
            clear F
            go_enter Tryz.func85, Tryz.ntmps85
            go_wp2_with fail
            go_at_call 145; refine (rdigits_any _ _ (by omega)).mono ?_; rintro e w1 ⟨rfl, rfl⟩
            rw [Hn.out]
            go_wp2_with fail
            go_ret2
            exact ⟨by rw [hz.out.1, hz.out.2]; rfl, rfl⟩
          · have hz := hid (F.out.2 (by omega))
            have d12 : decide ((12 : Int) < (s.size : Int)) = false := by simp; omega
            clear F
            have g : -2147483648 ≤ n := by omega
            all_goals
              go_enter Tryz.func85, Tryz.ntmps85
              go_wp2_with fail
              go_at_call 145; refine (rdigits_any _ _ (by omega)).mono ?_; rintro e w1 ⟨rfl, rfl⟩
              rw [Hn.out]
              go_wp2
              go_ret2
              refine ⟨?_, rfl⟩
              rw [hz.out.1, hz.out.2]
              simp
              try omega

/- The values of the kinds. -/
theorem numB_some (l : Bs) : (numB l).isSome = rnumOk l := by rw [numB_ref]; cases rnumOk l <;> rfl
theorem isNum_ok (l : Bs) : isNum l = rnumOk l := numB_some l
theorem code_hats (l : Bs) (h : codesB l = true) : hatsB l = true := by
  unfold codesB at h
  rw [List.all_eq_true] at h
  have : l.count 94 = 0 := by
    rw [List.count_eq_zero]
    intro hm
    have := h 94 hm
    revert this; decide
  unfold hatsB
  rw [this]; rfl
/-- valueOK is Check's own, where there is a value. -/
def rval (k l : Bs) : Bool :=
  if k = [85, 73] then nameB l else if k = [68, 65] then dateB l else if k = [84, 77] then timeB l else if k = [73, 83] then rnumOk l else rtext k l
theorem rval_chk (k l : Bs) (hk : IsKind k) : chkF k l = if rval k l then 0 else 6 := by
  unfold chkF rval
  rcases hk with rfl | rfl | rfl | rfl | rfl | rfl | rfl
  · simp [rtext]
  · simp [rtext, hatsB]
    cases txtB l <;> simp
  · simp only [rtext]
    by_cases hc : codesB l = true
    · have hh := code_hats l hc
      unfold hatsB at hh
      have hc' : l.all codeC = true := hc
      simp [isCodeB, hc, hc', hh]
      cases txtB l <;> simp
    · have hc' : l.all codeC = false := by simpa [codesB] using hc
      have hc2 : codesB l = false := hc'
      simp [isCodeB, hc2, hc']
  · simp
  · simp
  · simp
  · simp [isNum_ok]
end Go.Proofs.YtaokifbpakbgdaaGreatDoor
