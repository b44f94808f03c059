/-
  Several texts in one; what each one has stands at its head.
-/
import Derived.Test.YtaokifbpakbgdaaGreatDoorRows
import Derived.Test.YtaokifbpakbgdaaGreatDoorShelf
import Derived.WalkKit
import Derived.Lib.ConvBytes
import Derived.Test.YtaokifbpakbgdaaGreatDoorPut1
import Derived.Deep.QuietTactic
import Derived.BigQuiet
/- Worlds that only grow, and the three variables of the library that the program reads. -/
namespace Go.Proofs.YtaokifbpakbgdaaGreatDoor
open Go.RowKit

/-- Nothing that was there has turned. -/
def Up (w w' : World) : Prop := Below w.heap.size w w'
theorem Up.refl (w : World) : Up w w := Below.refl _ _
theorem Up.size {w w' : World} (h : Up w w') : w.heap.size ≤ w'.heap.size := Below.size h
theorem Up.trans {a b c : World} (h : Up a b) (k : Up b c) : Up a c := Below.trans h (Below.mono k h.size)
theorem Up.drew {a b : World} (h : Up a b) : Up a b.drew := Below.drew h
theorem Up.drewN {a b : World} (h : Up a b) : ∀ n, Up a (b.drewN n)
  | _ => ⟨h.os, h.tape, h.output, h.size, h.block⟩
theorem Up.alloc {a b : World} (h : Up a b) (o : Obj) : Up a (b.alloc o) := Below.alloc h h.size o
theorem Up.cell {a b : World} (h : Up a b) {p : Addr} {v : Value} (hc : a.cell? p = some v) : b.cell? p = some v := by rw [Below.cell h (World.block_lt_of_cell? _ _ hc)]; exact hc
theorem Up.bytes (w : World) (e : TypeId) (t : ByteArray) : Up w (Lib.bytesWorld w e t) :=
  ⟨rfl, rfl, rfl, by rw [Lib.bytesWorld_size]; omega, fun j hj => Lib.bytesWorld_at_old w e t j hj⟩

/-- The library's variables that are read hold something of their type. -/
def Vars (w : World) : Prop :=
  (∃ m, w.cell? ⟨3, 0, none⟩ = some (.int .i64 m)) ∧
  (∃ ev, w.cell? ⟨7, 0, none⟩ = some ev ∧ (ev = .nilIface ∨ ∃ te pe, ev = .iface te pe)) ∧
  (∃ ev, w.cell? ⟨8, 0, none⟩ = some ev ∧ (ev = .nilIface ∨ ∃ te pe, ev = .iface te pe))
theorem Vars.up {w w' : World} (h : Vars w) (k : Up w w') : Vars w' := by
  obtain ⟨⟨m, h1⟩, ⟨e, h2, h3⟩, ⟨f, h4, h5⟩⟩ := h
  exact ⟨⟨m, k.cell h1⟩, ⟨e, k.cell h2, h3⟩, ⟨f, k.cell h4, h5⟩⟩
end Go.Proofs.YtaokifbpakbgdaaGreatDoor

/- What number, isDate, isTime and isName of package value answer. -/
namespace Go.Proofs.YtaokifbpakbgdaaGreatDoor
open Go.RowKit

/-- The second result of 'number' and, where it is true, the first. -/
def numV (l : Bs) : Int := (numB l).getD 0
def numOk (l : Bs) : Bool := (numB l).isSome

theorem vnumber_any (s : ByteArray) (w : World) (hs : s.size ≤ 9223372036854775806) (hv : Vars w) :
    Calls Tryz.prog 81 #[.string s] w fun e w' => e = .returned (.tuple #[.int .i64 (numV s.data.toList), .bool (numOk s.data.toList)]) ∧ Up w w' := by
  have hl : Hid (s.data.toList.length = s.size) := by unfold Hid; simp
  by_cases h12 : s.size ≤ 12
  · obtain ⟨_, ⟨e1, c1, f1⟩, ⟨e2, c2, f2⟩⟩ := hv
    rcases hp : Lib.parseIntB 32 s.data.toList with v | _ | _
    · have hN : Hid (numB s.data.toList = some v) := by unfold Hid numB; rw [if_neg (by rw [hl.out]; omega), hp]
      go_enter Tryz.func81, Tryz.ntmps81
      go_wp2_with (go_at_call 144; refine (Any.strconv_ParseInt_10_at32_ok Tryz.laysC174 s (by omega) v hp _).mono ?_; rintro e w' ⟨rfl, hw⟩)
      go_ret2
      refine ⟨by simp [numV, numOk, hN.out], ?_⟩
      rcases hw with rfl | ⟨t, rfl⟩
      · exact Up.refl _
      · exact Up.bytes _ _ _
    · have hN : Hid (numB s.data.toList = none) := by unfold Hid numB; rw [if_neg (by rw [hl.out]; omega), hp]
      go_enter Tryz.func81, Tryz.ntmps81
      go_wp2_with (go_at_call 144; refine (Any.strconv_ParseInt_10_at32_syntax Tryz.laysC174 s (by omega) hp e1 _ c1 f1).mono ?_; rintro e w' ⟨N, rfl, _, _, hw⟩)
      go_ret2
      exact ⟨by simp [numV, numOk, hN.out], hw⟩
    · have hN : Hid (numB s.data.toList = none) := by unfold Hid numB; rw [if_neg (by rw [hl.out]; omega), hp]
      go_enter Tryz.func81, Tryz.ntmps81
      go_wp2_with (go_at_call 144; refine (Any.strconv_ParseInt_10_at32_range Tryz.laysC174 s (by omega) hp e2 _ c2 f2).mono ?_; rintro e w' ⟨N, rfl, _, _, hw⟩)
      go_ret2
      exact ⟨by simp [numV, numOk, hN.out], hw⟩
  · have hN : Hid (numB s.data.toList = none) := by unfold Hid numB; rw [if_pos (by rw [hl.out]; omega)]
    go_enter Tryz.func81, Tryz.ntmps81
    go_wp2
    go_ret2
    exact ⟨by simp [numV, numOk, hN.out], Up.refl _⟩

theorem sub_data (s : ByteArray) (a b : Nat) : (s.extract a b).data.toList = (s.data.toList.drop a).take (b - a) := Lib.extract_data s a b
theorem digits_sub (s : ByteArray) (a b : Nat) (w : World) (h : b - a ≤ 8) (hd : digitsB s.data.toList = true) :
    Calls Tryz.prog 142 #[.string (s.extract a b)] w fun e w' => e = .returned (.int .i64 (num ((s.data.toList.drop a).take (b - a)))) ∧ w' = w := by
  rw [← sub_data]
  exact digits_any _ w (by simp; omega) (by rw [sub_data]; exact digits_take _ _ (digits_drop _ _ hd))
theorem daysOf_at (y m : Int) (w : World) (h : 0 ≤ y ∧ y < 10000) :
    Calls Tryz.prog 143 #[.int .i64 y, .int .i64 m] w fun e w' => e = .returned (.int .i64 (daysOf y m)) ∧ w' = w := daysOf_any y m w h.1 (by omega)

theorem isDate_any (s : ByteArray) (w : World) (hs : s.size ≤ 9223372036854775807) :
    Calls Tryz.prog 79 #[.string s] w fun e w' => e = .returned (.bool (dateB s.data.toList)) ∧ Up w w' := by
  have hl : Hid (s.data.toList.length = s.size) := by unfold Hid; simp
  by_cases h8 : s.size = 8
  · cases hd : digitsB s.data.toList
    · have hB : Hid (dateB s.data.toList = false) := by unfold Hid dateB; rw [hd]; simp
      go_enter Tryz.func79, Tryz.ntmps79
      go_wp2_with (go_at_call 141; refine (isDigits_any _ _ (by omega)).mono ?_; rintro e w' ⟨rfl, rfl⟩)
      go_ret
      exact ⟨vret_bool hB.out.symm, Up.refl _⟩
    · have hy := num_lt (s.data.toList.take 4) (digits_take _ 4 hd) 4 (by simp; omega) 10000 rfl
      have hD : Hid (dateB s.data.toList = (decide (1 ≤ num ((s.data.toList.drop 6).take 2)) && decide (num ((s.data.toList.drop 6).take 2) ≤ daysOf (num (s.data.toList.take 4)) (num ((s.data.toList.drop 4).take 2))))) := by
        unfold Hid dateB
        rw [hl.out, decide_eq_true h8, hd, List.take_of_length_le (l := s.data.toList.drop 6) (by simp; omega)]; rfl
      by_cases hday : 1 ≤ num ((s.data.toList.drop 6).take 2)
      · go_enter Tryz.func79, Tryz.ntmps79
        go_wp2_with (first
          | (go_at_call 141; refine (isDigits_any _ _ (by omega)).mono ?_; rintro e w' ⟨rfl, rfl⟩)
          | (go_at_call 142; refine (digits_sub s 6 8 _ (by omega) hd).mono ?_; rintro e w' ⟨rfl, rfl⟩))
        go_quiet (first
          | (go_at_call 142; exact Calls.quiet_of_same (digits_sub s _ _ _ (by omega) hd))
          | (go_at_call 143; exact Calls.quiet_of_same (daysOf_at _ _ _ hy)))
        go_wp2
        go_ret
        exact ⟨vret_bool (by rw [hD.out, decide_eq_true hday]; rfl), Up.drewN (Up.refl _) _⟩
      · have hd' : decide (1 ≤ num ((s.data.toList.drop 6).take 2)) = false := decide_eq_false hday
        go_enter Tryz.func79, Tryz.ntmps79
        go_wp2_with (first
          | (go_at_call 141; refine (isDigits_any _ _ (by omega)).mono ?_; rintro e w' ⟨rfl, rfl⟩)
          | (go_at_call 142; refine (digits_sub s 6 8 _ (by omega) hd).mono ?_; rintro e w' ⟨rfl, rfl⟩))
        go_quiet (fail)
        go_wp2
        go_ret
        exact ⟨vret_bool (by rw [hD.out, hd']; rfl), Up.drewN (Up.refl _) _⟩
  · have hB : Hid (dateB s.data.toList = false) := by unfold Hid dateB; rw [hl.out, decide_eq_false h8]; simp
    go_enter Tryz.func79, Tryz.ntmps79
    go_wp2
    go_ret
    exact ⟨vret_bool hB.out.symm, Up.refl _⟩

theorem time_true (l : Bs) (h6 : l.length = 2 ∨ l.length = 4 ∨ l.length = 6) (hd : digitsB l = true) (h23 : num (l.take 2) ≤ 23)
    (hp : ∀ j, 2 ≤ j → j < l.length → j % 2 = 0 → num ((l.drop j).take 2) ≤ 59) : timeB l = true := by
  have h2 : num ((l.drop 2).take 2) ≤ 59 := by
    by_cases h : 2 < l.length
    · exact hp 2 (by omega) h rfl
    · rw [List.drop_eq_nil_of_le (by omega)]; decide
  have h4 : num ((l.drop 4).take 2) ≤ 59 := by
    by_cases h : 4 < l.length
    · exact hp 4 (by omega) h rfl
    · rw [List.drop_eq_nil_of_le (by omega)]; decide
  unfold timeB
  simp [hd, h23, h2, h4]
  omega
theorem time_len (l : Bs) (h6 : ¬ (l.length = 2 ∨ l.length = 4 ∨ l.length = 6)) : timeB l = false := by
  unfold timeB
  have : (decide (l.length = 2) || decide (l.length = 4) || decide (l.length = 6)) = false := by simp; omega
  rw [this]; rfl
theorem time_dig (l : Bs) (h : digitsB l = false) : timeB l = false := by unfold timeB; simp [h]
theorem time_hour (l : Bs) (h : 23 < num (l.take 2)) : timeB l = false := by
  unfold timeB; rw [decide_eq_false (by omega : ¬ num (l.take 2) ≤ 23)]; simp
theorem time_rest (l : Bs) (j : Nat) (h1 : 2 ≤ j) (h2 : j < 6) (h3 : j % 2 = 0) (h : 59 < num ((l.drop j).take 2)) : timeB l = false := by
  unfold timeB
  have hj : j = 2 ∨ j = 4 := by omega
  rcases hj with rfl | rfl
  · rw [decide_eq_false (by omega : ¬ num ((l.drop 2).take 2) ≤ 59)]; simp
  · rw [decide_eq_false (by omega : ¬ num ((l.drop 4).take 2) ≤ 59)]; simp

theorem isTime_at (n : Nat) (hn : n = 2 ∨ n = 4 ∨ n = 6) (s : ByteArray) (w : World) (h6 : s.size = n) :
    Calls Tryz.prog 80 #[.string s] w fun e w' => e = .returned (.bool (timeB s.data.toList)) ∧ w' = w := by
  have hl : Hid (s.data.toList.length = n) := by unfold Hid; simp [h6]
  have H6 : Hid (n = 2 ∨ n = 4 ∨ n = 6) := hn
  cases hd : digitsB s.data.toList
  · rcases hn with rfl | rfl | rfl <;>
    (go_enter Tryz.func80, Tryz.ntmps80
     go_wp2_with (go_at_call 141; refine (isDigits_any _ _ (by omega)).mono ?_; rintro e w' ⟨rfl, rfl⟩)
     go_ret
     exact ⟨vret_bool (time_dig _ hd).symm, rfl⟩)
  · by_cases h23 : num (s.data.toList.take 2) ≤ 23
    · rcases hn with rfl | rfl | rfl <;>
      (go_enter Tryz.func80, Tryz.ntmps80
       go_wp2_with (first
          | (go_at_call 141; refine (isDigits_any _ _ (by omega)).mono ?_; rintro e w' ⟨rfl, rfl⟩)
          | (go_at_call 142; refine (digits_sub s _ _ _ (by omega) hd).mono ?_; rintro e w' ⟨rfl, rfl⟩))
       go_loop [4] (fun i => ∃ k : Nat, k % 2 = 0 ∧ 2 ≤ k ∧ k ≤ s.size ∧ i = .int .i64 k ∧ Hid (∀ j, 2 ≤ j → j < k → j % 2 = 0 → num ((s.data.toList.drop j).take 2) ≤ 59)) (fun i => 6 - (intOf i).toNat)
       case atStart => exact ⟨2, rfl, by omega, by omega, rfl, fun j h1 h2 => by omega⟩
       case round =>
          obtain ⟨k, hk2, hk0, hk, rfl, hp⟩ := hrel
          by_cases hlt : k < s.size
          · first
            | (exfalso; omega; done)
            | (have hk2 : k + 2 ≤ s.size := by omega
               by_cases h59 : num ((s.data.toList.drop k).take 2) ≤ 59
               · go_wp2_with (go_at_call 142; refine (digits_sub s _ _ _ (by omega) hd).mono ?_; rintro e w' ⟨rfl, rfl⟩)
                 go_round
                 case rel => exact ⟨k + 2, by omega, by omega, by omega, by go_num, fun j h1 h2 h3 => if e : j = k then by rw [e]; exact h59 else hp.out j h1 (by omega) h3⟩
                 case measure => simp [intOf]; omega
               · have h59' : 59 < num ((s.data.toList.drop k).take 2) := by omega
                 go_wp2_with (go_at_call 142; refine (digits_sub s _ _ _ (by omega) hd).mono ?_; rintro e w' ⟨rfl, rfl⟩)
                 go_ret
                 exact ⟨vret_bool (time_rest _ k (by omega) (by omega) (by omega) (by omega)).symm, rfl⟩)
          · go_wp2
            go_ret
            exact ⟨vret_bool (time_true _ (by rw [hl.out]; omega) hd h23 (fun j h1 h2 h3 => hp.out j h1 (by rw [hl.out] at h2; omega) h3)).symm, rfl⟩)
    · have h23' : 23 < num (s.data.toList.take 2) := by omega
      rcases hn with rfl | rfl | rfl <;>
      (go_enter Tryz.func80, Tryz.ntmps80
       go_wp2_with (first
          | (go_at_call 141; refine (isDigits_any _ _ (by omega)).mono ?_; rintro e w' ⟨rfl, rfl⟩)
          | (go_at_call 142; refine (digits_sub s _ _ _ (by omega) hd).mono ?_; rintro e w' ⟨rfl, rfl⟩))
       go_ret
       exact ⟨vret_bool (time_hour _ (by omega)).symm, rfl⟩)
theorem isTime_any (s : ByteArray) (w : World) (_hs : s.size ≤ 9223372036854775807) :
    Calls Tryz.prog 80 #[.string s] w fun e w' => e = .returned (.bool (timeB s.data.toList)) ∧ w' = w := by
  by_cases h6 : s.size = 2 ∨ s.size = 4 ∨ s.size = 6
  · exact isTime_at s.size h6 s w rfl
  · have H6 : Hid (timeB s.data.toList = false) := time_len _ (by simpa using h6)
    have h2 : s.size ≠ 2 := by omega
    have h4 : s.size ≠ 4 := by omega
    have h6 : s.size ≠ 6 := by omega
    go_enter Tryz.func80, Tryz.ntmps80
    go_wp2
    go_ret
    exact ⟨vret_bool H6.out.symm, rfl⟩
end Go.Proofs.YtaokifbpakbgdaaGreatDoor

/- What isName, checkFilled and Check of package value answer. -/
namespace Go.Proofs.YtaokifbpakbgdaaGreatDoor
open Go.RowKit

/-- strings.Split at one byte: the parts, in a block of their own. -/
theorem split_one (s : ByteArray) (c : UInt8) (w : World) (hs : s.size < 4294967281) (hv : Vars w) :
    Calls Tryz.prog 123 #[.string s, .string ⟨#[c]⟩] w fun e w' => ∃ (b : Nat) (zs : List ByteArray), e = .returned (.slice (some ⟨b, 0, none⟩) zs.length zs.length) ∧
      zs.map (·.data.toList) = spl c s.data.toList ∧ zs.length ≤ s.size + 1 ∧ (∀ (j : Nat) (h : j < zs.length), w'.cell? ⟨b, j, none⟩ = some (.string zs[j])) ∧ Up w w' := by
  obtain ⟨⟨m, hm⟩, _⟩ := hv
  refine (Tryz.strings_Split s ⟨#[c]⟩ m w hs hm (Nat.le_refl 1)).mono ?_
  rintro e w' ⟨rfl, rfl⟩
  have hlen := Lib.splitB_all (⟨#[c]⟩ : ByteArray) (Nat.le_refl 1) 0 _ s rfl
  have hle := Lib.countB_le (⟨#[c]⟩ : ByteArray) (Nat.le_refl 1) s.size s (Nat.le_refl _)
  refine ⟨w.heap.size, Lib.splitB ⟨#[c]⟩ 0 (Lib.countB s ⟨#[c]⟩) s, by rw [hlen], splitB_one s c, by omega, fun j h => ?_, Up.alloc (Up.refl _) _⟩
  rw [World.cell?_alloc_new, List.getElem?_toArray, List.getElem?_map, List.getElem?_eq_getElem h]; rfl
theorem of_parts {zs : List ByteArray} {c : UInt8} {l : Bs} {p : Bs → Bool} (h : zs.map (·.data.toList) = spl c l) : (spl c l).all p = zs.all fun z => p z.data.toList := by
  rw [← h, List.all_map]; rfl
theorem part_size {zs : List ByteArray} {c : UInt8} {l : Bs} (h : zs.map (·.data.toList) = spl c l) {j : Nat} (hj : j < zs.length) : zs[j].size ≤ l.length := by
  have : zs[j].data.toList ∈ spl c l := by rw [← h]; exact List.mem_map_of_mem (List.getElem_mem hj)
  have hb : ∀ (l : Bs) (x : Bs), x ∈ spl c l → x.length ≤ l.length := by
    intro l
    induction l with
    | nil => intro x hx; simp [spl] at hx; simp [hx]
    | cons y l ih =>
      intro x hx
      unfold spl at hx
      split at hx
      · simp at hx
        rcases hx with rfl | hx
        · simp
        · have := ih x hx; simp; omega
      · simp at hx
        rcases hx with rfl | hx
        · have hne := spl_ne c l
          have := ih ((spl c l).headD []) (by cases h : spl c l with | nil => exact absurd h hne | cons a r => simp)
          simp at this ⊢; omega
        · have := ih x (List.mem_of_mem_tail hx); simp; omega
  have := hb l _ this
  simpa using this
theorem takeAll_next {zs : List ByteArray} {p : ByteArray → Bool} {k : Nat} (hk : k < zs.length) (h : (zs.take k).all p = true) (hp : p zs[k] = true) : (zs.take (k + 1)).all p = true := by
  rw [List.take_succ_eq_append_getElem hk, List.all_append, h]; simp [hp]
theorem takeAll_fail {zs : List ByteArray} {p : ByteArray → Bool} {k : Nat} (hk : k < zs.length) (hp : p zs[k] = false) : zs.all p = false := by
  rw [List.all_eq_false]
  exact ⟨zs[k], List.getElem_mem hk, by simp [hp]⟩
theorem takeAll_end {zs : List ByteArray} {p : ByteArray → Bool} {k : Nat} (hk : zs.length ≤ k) (h : (zs.take k).all p = true) : zs.all p = true := by
  rwa [List.take_of_length_le hk] at h

theorem part_empty {z : ByteArray} (h : z.toList = []) : partB z.data.toList = false := by
  rw [Lib.toList_data] at h; rw [h]; rfl
theorem part_dig {z : ByteArray} (h : digitsB z.data.toList = false) : partB z.data.toList = false := by unfold partB; rw [h]; simp
theorem head_of {z : ByteArray} (h0 : 0 < z.size) : z.data.toList.head? = some z[0] := by
  rw [List.head?_eq_getElem?, List.getElem?_eq_getElem (by simpa using h0)]; rfl
theorem byte_of {c : UInt8} {n : UInt8} (h : (c.toNat : Int) = (n.toNat : Int)) : c = n := UInt8.toNat_inj.1 (by omega)
theorem part_zero {z : ByteArray} (h0 : 0 < z.size) (h48 : (z[0].toNat : Int) = 48) (hq : ¬ z.toList = [48]) : partB z.data.toList = false := by
  rw [Lib.toList_data] at hq
  unfold partB
  rw [head_of h0, byte_of (n := 48) h48, decide_eq_false hq]; simp
theorem part_one {z : ByteArray} (hq : z.toList = [48]) : partB z.data.toList = true := by
  rw [Lib.toList_data] at hq; rw [hq]; decide
theorem part_ok {z : ByteArray} (h0 : 0 < z.size) (hd : digitsB z.data.toList = true) (h48 : ¬ (z[0].toNat : Int) = 48) : partB z.data.toList = true := by
  have hne : ¬ z.data.toList = [] := fun e => by
    have h1 : z.data.toList.length = 0 := by rw [e]; rfl
    have h2 : z.data.toList.length = z.size := by simp
    omega
  have h1 : ¬ (some z[0] = some (48 : UInt8)) := fun e => h48 (by rw [Option.some.inj e]; rfl)
  unfold partB
  rw [head_of h0, hd, decide_eq_false hne, decide_eq_false h1]; rfl
theorem isName_any (s : ByteArray) (w : World) (hs : s.size ≤ 9223372036854775807) (hv : Vars w) :
    Calls Tryz.prog 78 #[.string s] w fun e w' => e = .returned (.bool (nameB s.data.toList)) ∧ Up w w' := by
  have hl : Hid (s.data.toList.length = s.size) := by unfold Hid; simp
  by_cases h64 : s.size ≤ 64
  · have hN : Hid (nameB s.data.toList = (spl 46 s.data.toList).all partB) := by unfold Hid nameB; rw [hl.out, decide_eq_true h64]; rfl
    go_enter Tryz.func78, Tryz.ntmps78
    go_wp2_with (go_at_call 123; refine (split_one s 46 _ (by omega) hv).mono ?_; rintro e w' ⟨b, zs, rfl, hz0, hzl, hzc0, hup⟩)
    have hz : Hid (zs.map (·.data.toList) = spl 46 s.data.toList) := hz0
    have hzc : Hid (∀ (j : Nat) (h : j < zs.length), w'.cell? ⟨b, j, none⟩ = some (.string zs[j])) := hzc0
    clear hz0 hzc0
    go_loop [11, 4] (fun i _ => ∃ k : Nat, k ≤ zs.length ∧ i = .int .i64 k ∧ Hid ((zs.take k).all (fun z => partB z.data.toList) = true)) (fun i _ => zs.length - (intOf i).toNat)
    case atStart => exact ⟨0, Nat.zero_le _, rfl, rfl⟩
    case round =>
      obtain ⟨k, hk, rfl, ha⟩ := hrel
      by_cases hlt : k < zs.length
      · have hc := hzc.out k hlt
        generalize hzk : zs[k] = z at hc
        have hsz : z.size ≤ 64 := by have := part_size hz.out hlt; rw [hzk, hl.out] at this; omega
        have HZ : Hid (zs[k] = z) := hzk
        clear hzk
        by_cases he : z.toList = []
        · go_wp2
          go_ret
          exact ⟨vret_bool (by rw [hN.out, of_parts hz.out]; exact (takeAll_fail hlt (by rw [HZ.out]; exact part_empty he)).symm), hup⟩
        · have h0 : 0 < z.size := by
            rcases Nat.eq_zero_or_pos z.size with h | h
            · exact absurd (by rw [Lib.toList_data]; exact List.eq_nil_of_length_eq_zero (by simpa using h)) he
            · exact h
          have hie : z.toList.isEmpty = false := by simpa using he
          cases hd : digitsB z.data.toList
          · go_wp2_with (go_at_call 141; refine (isDigits_any _ _ (by omega)).mono ?_; rintro e w' ⟨rfl, rfl⟩)
            go_ret
            exact ⟨vret_bool (by rw [hN.out, of_parts hz.out]; exact (takeAll_fail hlt (by rw [HZ.out]; exact part_dig hd)).symm), hup⟩
          · by_cases h48 : (z[0].toNat : Int) = 48
            · by_cases hq : z.toList = [48]
              · go_wp2_with (go_at_call 141; refine (isDigits_any _ _ (by omega)).mono ?_; rintro e w' ⟨rfl, rfl⟩)
                go_round
                case rel => exact ⟨k + 1, by omega, by go_num, takeAll_next hlt ha.out (by rw [HZ.out]; exact part_one hq)⟩
                case measure => simp [intOf]; omega
              · have hq' : (z.toList == [48]) = false := by simpa using hq
                go_wp2_with (go_at_call 141; refine (isDigits_any _ _ (by omega)).mono ?_; rintro e w' ⟨rfl, rfl⟩)
                go_ret
                exact ⟨vret_bool (by rw [hN.out, of_parts hz.out]; exact (takeAll_fail hlt (by rw [HZ.out]; exact part_zero h0 h48 hq)).symm), hup⟩
            · go_wp2_with (go_at_call 141; refine (isDigits_any _ _ (by omega)).mono ?_; rintro e w' ⟨rfl, rfl⟩)
              go_round
              case rel => exact ⟨k + 1, by omega, by go_num, takeAll_next hlt ha.out (by rw [HZ.out]; exact part_ok h0 hd h48)⟩
              case measure => simp [intOf]; omega
      · go_wp2
        go_ret
        exact ⟨vret_bool (by rw [hN.out, of_parts hz.out]; exact (takeAll_end (by omega) ha.out).symm), hup⟩
  · go_enter Tryz.func78, Tryz.ntmps78
    go_wp2
    go_ret
    exact ⟨vret_bool (by unfold nameB; rw [hl.out, decide_eq_false h64]; rfl), Up.refl _⟩
end Go.Proofs.YtaokifbpakbgdaaGreatDoor

/- What checkFilled and Check of package value answer. -/
namespace Go.Proofs.YtaokifbpakbgdaaGreatDoor
open Go.RowKit

theorem cf_CS (k s : ByteArray) (w : World) (hs : s.size ≤ 9223372036854775806) (hk : k.toList = [67, 83]) :
    Calls Tryz.prog 41 #[.string k, .string s] w fun e w' => e = .returned (.int .i64 (chkF k.data.toList s.data.toList)) ∧ Up w w' := by
  have hK : Hid (k.data.toList = [67, 83]) := by rw [Lib.toList_data] at hk; exact hk
  go_enter Tryz.func41, Tryz.ntmps41
  go_wp2_with (first
    | (go_at_call 75; refine (isCode_any _ _ (by omega)).mono ?_; rintro e w' ⟨rfl, rfl⟩)
    | (go_at_call 76; refine (Tryz.strings_Count_one _ _ _).mono ?_; rintro e w' ⟨rfl, rfl⟩)
    | (go_at_call 65; refine (isText_any _ _ (by omega)).mono ?_; rintro e w' ⟨rfl, rfl⟩)
    | (go_at_call 77; refine (Tryz.strings_HasSuffix _ _ _ (by omega)).mono ?_; rintro e w' ⟨rfl, rfl⟩))
  all_goals go_ret
  all_goals refine ⟨vret_int ?_, Up.refl _⟩
  all_goals rw [hK.out]
  all_goals simp_all [chkF, txtB, suffix_blank, Lib.countByte, Lib.toList_data]
  all_goals (intros; first | omega | (exfalso; omega))
theorem cf_PN (k s : ByteArray) (w : World) (hs : s.size ≤ 9223372036854775806) (hk : k.toList = [80, 78]) :
    Calls Tryz.prog 41 #[.string k, .string s] w fun e w' => e = .returned (.int .i64 (chkF k.data.toList s.data.toList)) ∧ Up w w' := by
  have hK : Hid (k.data.toList = [80, 78]) := by rw [Lib.toList_data] at hk; exact hk
  go_enter Tryz.func41, Tryz.ntmps41
  go_wp2_with (first
    | (go_at_call 76; refine (Tryz.strings_Count_one _ _ _).mono ?_; rintro e w' ⟨rfl, rfl⟩)
    | (go_at_call 65; refine (isText_any _ _ (by omega)).mono ?_; rintro e w' ⟨rfl, rfl⟩)
    | (go_at_call 77; refine (Tryz.strings_HasSuffix _ _ _ (by omega)).mono ?_; rintro e w' ⟨rfl, rfl⟩))
  all_goals go_ret
  all_goals refine ⟨vret_int ?_, Up.refl _⟩
  all_goals rw [hK.out]
  all_goals simp_all [chkF, txtB, suffix_blank, Lib.countByte, Lib.toList_data]
  all_goals (intros; first | omega | (exfalso; omega))
theorem cf_LO (k s : ByteArray) (w : World) (hs : s.size ≤ 9223372036854775806) (hk : k.toList = [76, 79]) :
    Calls Tryz.prog 41 #[.string k, .string s] w fun e w' => e = .returned (.int .i64 (chkF k.data.toList s.data.toList)) ∧ Up w w' := by
  have hK : Hid (k.data.toList = [76, 79]) := by rw [Lib.toList_data] at hk; exact hk
  go_enter Tryz.func41, Tryz.ntmps41
  go_wp2_with (first
    | (go_at_call 65; refine (isText_any _ _ (by omega)).mono ?_; rintro e w' ⟨rfl, rfl⟩)
    | (go_at_call 77; refine (Tryz.strings_HasSuffix _ _ _ (by omega)).mono ?_; rintro e w' ⟨rfl, rfl⟩))
  all_goals go_ret
  all_goals refine ⟨vret_int ?_, Up.refl _⟩
  all_goals rw [hK.out]
  all_goals simp_all [chkF, txtB, suffix_blank, Lib.toList_data]
theorem cf_UI (k s : ByteArray) (w : World) (hs : s.size ≤ 9223372036854775806) (hv : Vars w) (hk : k.toList = [85, 73]) :
    Calls Tryz.prog 41 #[.string k, .string s] w fun e w' => e = .returned (.int .i64 (chkF k.data.toList s.data.toList)) ∧ Up w w' := by
  have hK : Hid (k.data.toList = [85, 73]) := by rw [Lib.toList_data] at hk; exact hk
  go_enter Tryz.func41, Tryz.ntmps41
  go_wp2_with (first
    | (go_at_call 78; refine (isName_any _ _ (by omega) hv).mono ?_; rintro e w' ⟨rfl, hup⟩))
  all_goals go_ret
  all_goals refine ⟨vret_int ?_, hup⟩
  all_goals rw [hK.out]
  all_goals simp_all [chkF]
theorem cf_DA (k s : ByteArray) (w : World) (hs : s.size ≤ 9223372036854775806) (hk : k.toList = [68, 65]) :
    Calls Tryz.prog 41 #[.string k, .string s] w fun e w' => e = .returned (.int .i64 (chkF k.data.toList s.data.toList)) ∧ Up w w' := by
  have hK : Hid (k.data.toList = [68, 65]) := by rw [Lib.toList_data] at hk; exact hk
  go_enter Tryz.func41, Tryz.ntmps41
  go_wp2_with (first
    | (go_at_call 79; refine (isDate_any _ _ (by omega)).mono ?_; rintro e w' ⟨rfl, hup⟩))
  all_goals go_ret
  all_goals refine ⟨vret_int ?_, hup⟩
  all_goals rw [hK.out]
  all_goals simp_all [chkF]
theorem cf_TM (k s : ByteArray) (w : World) (hs : s.size ≤ 9223372036854775806) (hk : k.toList = [84, 77]) :
    Calls Tryz.prog 41 #[.string k, .string s] w fun e w' => e = .returned (.int .i64 (chkF k.data.toList s.data.toList)) ∧ Up w w' := by
  have hK : Hid (k.data.toList = [84, 77]) := by rw [Lib.toList_data] at hk; exact hk
  go_enter Tryz.func41, Tryz.ntmps41
  go_wp2_with (first
    | (go_at_call 80; refine (isTime_any _ _ (by omega)).mono ?_; rintro e w' ⟨rfl, rfl⟩))
  all_goals go_ret
  all_goals refine ⟨vret_int ?_, Up.refl _⟩
  all_goals rw [hK.out]
  all_goals simp_all [chkF]
theorem cf_IS (k s : ByteArray) (w : World) (hs : s.size ≤ 9223372036854775806) (hv : Vars w) (hk : k.toList = [73, 83]) :
    Calls Tryz.prog 41 #[.string k, .string s] w fun e w' => e = .returned (.int .i64 (chkF k.data.toList s.data.toList)) ∧ Up w w' := by
  have hK : Hid (k.data.toList = [73, 83]) := by rw [Lib.toList_data] at hk; exact hk
  go_enter Tryz.func41, Tryz.ntmps41
  go_wp2_with (first
    | (go_at_call 81; refine (vnumber_any _ _ (by omega) hv).mono ?_; rintro e w' ⟨rfl, hup⟩))
  all_goals go_ret
  all_goals refine ⟨vret_int ?_, hup⟩
  all_goals rw [hK.out]
  all_goals simp_all [chkF, numOk, isNum]
theorem cf_none (k s : ByteArray) (w : World) (hk : ¬ (k.toList = [67, 83] ∨ k.toList = [80, 78] ∨ k.toList = [76, 79] ∨ k.toList = [85, 73] ∨ k.toList = [68, 65] ∨ k.toList = [84, 77] ∨ k.toList = [73, 83])) :
    Calls Tryz.prog 41 #[.string k, .string s] w fun e w' => e = .returned (.int .i64 (chkF k.data.toList s.data.toList)) ∧ Up w w' := by
  simp only [not_or] at hk
  obtain ⟨h1, h2, h3, h4, h5, h6, h7⟩ := hk
  have hK : Hid (chkF k.data.toList s.data.toList = 2) := by
    unfold Hid chkF
    rw [← Lib.toList_data k, if_neg h1, if_neg h2, if_neg h3, if_neg h4, if_neg h5, if_neg h6, if_neg h7]
  have g1 : (k.toList == [67, 83]) = false := by simpa using h1
  have g2 : (k.toList == [80, 78]) = false := by simpa using h2
  have g3 : (k.toList == [76, 79]) = false := by simpa using h3
  have g4 : (k.toList == [85, 73]) = false := by simpa using h4
  have g5 : (k.toList == [68, 65]) = false := by simpa using h5
  have g6 : (k.toList == [84, 77]) = false := by simpa using h6
  have g7 : (k.toList == [73, 83]) = false := by simpa using h7
  clear h1 h2 h3 h4 h5 h6 h7
  go_enter Tryz.func41, Tryz.ntmps41
  go_wp2
  go_ret
  exact ⟨vret_int hK.out.symm, Up.refl _⟩
theorem checkFilled_any (k s : ByteArray) (w : World) (hs : s.size ≤ 9223372036854775806) (hv : Vars w) :
    Calls Tryz.prog 41 #[.string k, .string s] w fun e w' => e = .returned (.int .i64 (chkF k.data.toList s.data.toList)) ∧ Up w w' := by
  by_cases h : k.toList = [67, 83] ∨ k.toList = [80, 78] ∨ k.toList = [76, 79] ∨ k.toList = [85, 73] ∨ k.toList = [68, 65] ∨ k.toList = [84, 77] ∨ k.toList = [73, 83]
  · rcases h with h | h | h | h | h | h | h
    · exact cf_CS k s w hs h
    · exact cf_PN k s w hs h
    · exact cf_LO k s w hs h
    · exact cf_UI k s w hs hv h
    · exact cf_DA k s w hs h
    · exact cf_TM k s w hs h
    · exact cf_IS k s w hs hv h
  · exact cf_none k s w h
theorem Check_any (k s : ByteArray) (w : World) (hs : s.size ≤ 9223372036854775806) (hv : Vars w) :
    Calls Tryz.prog 13 #[.string k, .string s] w fun e w' => e = .returned (.int .i64 (chk k.data.toList s.data.toList)) ∧ Up w w' := by
  go_enter Tryz.func13, Tryz.ntmps13
  go_wp2_with (go_at_call 41; refine (checkFilled_any _ _ _ hs hv).mono ?_; rintro e w' ⟨rfl, hup⟩)
  all_goals go_ret
  all_goals refine ⟨vret_int ?_, hup⟩
  all_goals simp_all [chk, Lib.toList_data]
end Go.Proofs.YtaokifbpakbgdaaGreatDoor

/- Patterns with * and ?: what fits them, and that going back to the last * alone finds it (no program). -/
namespace Go.Proofs.YtaokifbpakbgdaaGreatDoor

/-- Does a pattern fit all of a text? 42 is *, 63 is ?. -/
def glob : Bs → Bs → Bool
  | [] => fun v => v.isEmpty
  | c :: p => fun v => if c = 42 then (List.range (v.length + 1)).any fun t => glob p (v.drop t) else match v with
    | [] => false
    | x :: v => (decide (c = 63) || decide (c = x)) && glob p v
theorem glob_star (p v : Bs) : glob (42 :: p) v = true ↔ ∃ t, t ≤ v.length ∧ glob p (v.drop t) = true := by
  conv => lhs; lhs; unfold glob
  simp only [if_true, List.any_eq_true, List.mem_range]
  exact ⟨fun ⟨t, h, k⟩ => ⟨t, by omega, k⟩, fun ⟨t, h, k⟩ => ⟨t, by omega, k⟩⟩
theorem glob_nil (c : UInt8) (p : Bs) (h : c ≠ 42) : glob (c :: p) [] = false := by unfold glob; simp [h]
theorem glob_cons (c x : UInt8) (p v : Bs) (h : c ≠ 42) : glob (c :: p) (x :: v) = ((decide (c = 63) || decide (c = x)) && glob p v) := by
  conv => lhs; unfold glob
  simp [h]
theorem glob_star_mono (p v : Bs) (t : Nat) (h : glob (42 :: p) (v.drop t) = true) : glob (42 :: p) v = true := by
  rw [glob_star] at h ⊢
  obtain ⟨u, h1, h2⟩ := h
  rw [List.drop_drop] at h2
  by_cases ht : t ≤ v.length
  · exact ⟨t + u, by simp at h1; omega, h2⟩
  · refine ⟨v.length, Nat.le_refl _, ?_⟩
    rw [List.drop_eq_nil_of_le (by omega)] at h2
    rwa [List.drop_eq_nil_of_le (Nat.le_refl _)]
/-- A stretch without * takes as many bytes. -/
theorem glob_run (q : Bs) : ∀ (a v : Bs), 42 ∉ a → glob (a ++ q) v = true → a.length ≤ v.length ∧ glob q (v.drop a.length) = true
  | [], v, _, h => ⟨Nat.zero_le _, h⟩
  | c :: a, v, hn, h => by
    have hc : c ≠ 42 := fun e => hn (by simp [e])
    cases v with
    | nil => rw [List.cons_append, glob_nil c _ hc] at h; cases h
    | cons x v =>
      rw [List.cons_append, glob_cons c x _ _ hc, Bool.and_eq_true] at h
      have := glob_run q a v (fun e => hn (by simp [e])) h.2
      exact ⟨by simp; omega, by simpa using this.2⟩
theorem glob_end (p : Bs) : glob p [] = p.all (fun c => decide (c = 42)) := by
  induction p with
  | nil => rfl
  | cons c p ih =>
    by_cases h : c = 42
    · subst h
      rw [Bool.eq_iff_iff, glob_star]
      simp only [List.length_nil, List.drop_nil, ih]
      constructor
      · rintro ⟨t, _, h⟩; simpa using h
      · intro h; exact ⟨0, Nat.le_refl _, by simpa using h⟩
    · rw [glob_nil c p h]; simp [h]

/-- Where the search stands: at p of the pattern and v of the text; s: behind the last *, -1: there was none; from st on it took. -/
def Inv (P V : Bs) (p v : Nat) (s : Int) (st : Nat) : Prop :=
  p ≤ P.length ∧ v ≤ V.length ∧ st ≤ v ∧
  (s = -1 ∨ ∃ a n : Nat, s = a ∧ p = a + n ∧ v = st + n ∧ 42 ∉ (P.drop a).take n) ∧
  (glob P V = true ↔ (glob (P.drop p) (V.drop v) = true ∨ ∃ a : Nat, s = a ∧ ∃ t, st < t ∧ t ≤ V.length ∧ glob (P.drop a) (V.drop t) = true))
theorem inv_start (P V : Bs) : Inv P V 0 0 (-1) 0 :=
  ⟨Nat.zero_le _, Nat.zero_le _, Nat.le_refl _, Or.inl rfl, ⟨fun h => Or.inl h, fun h => h.elim id fun ⟨a, h, _⟩ => by omega⟩⟩
/-- What would fit with a longer stretch for the last * leaves room at p for what comes behind. -/
theorem inv_later {P V : Bs} {p v st a n t : Nat} (hp : p = a + n) (hv : v = st + n) (hn : 42 ∉ (P.drop a).take n) (hpl : p ≤ P.length) (ht : st < t) (ht2 : t ≤ V.length)
    (h : glob (P.drop a) (V.drop t) = true) : n + t ≤ V.length ∧ glob (P.drop p) ((V.drop v).drop (t - st)) = true := by
  have hl : ((P.drop a).take n).length = n := by simp; omega
  rw [← List.take_append_drop n (P.drop a)] at h
  have := glob_run _ _ _ hn h
  rw [hl, List.drop_drop, List.drop_drop] at this
  refine ⟨?_, ?_⟩
  · have := this.1
    simp only [List.length_drop] at this
    omega
  · rw [List.drop_drop, hp, hv]
    have e : st + n + (t - st) = t + n := by omega
    rw [e]
    exact this.2

theorem drop_cons {l : Bs} {k : Nat} (h : k < l.length) : l.drop k = l[k] :: l.drop (k + 1) := List.drop_eq_getElem_cons h
theorem inv_star {P V : Bs} {p v : Nat} {s : Int} {st : Nat} (h : Inv P V p v s st) (hp : p < P.length) (hc : P[p] = 42) : Inv P V (p + 1) v ((p + 1 : Nat) : Int) v := by
  obtain ⟨h1, h2, h3, h4, h5⟩ := h
  have hG : glob (P.drop p) (V.drop v) = true ↔ ∃ t, v ≤ t ∧ t ≤ V.length ∧ glob (P.drop (p + 1)) (V.drop t) = true := by
    rw [drop_cons hp, hc, glob_star]
    constructor
    · rintro ⟨t, ht, hg⟩
      rw [List.drop_drop] at hg
      exact ⟨v + t, by omega, by simp only [List.length_drop] at ht; omega, hg⟩
    · rintro ⟨t, ht1, ht2, hg⟩
      refine ⟨t - v, by simp only [List.length_drop]; omega, ?_⟩
      rw [List.drop_drop, show v + (t - v) = t by omega]
      exact hg
  refine ⟨by omega, h2, Nat.le_refl _, Or.inr ⟨p + 1, 0, rfl, rfl, rfl, by simp⟩, ?_⟩
  rw [h5]
  constructor
  · intro hx
    have hg : glob (P.drop p) (V.drop v) = true := by
      rcases hx with hx | ⟨a, ha, t, ht1, ht2, hg⟩
      · exact hx
      · rcases h4 with h4 | ⟨a', n, ha', hp', hv', hn⟩
        · omega
        · obtain rfl : a = a' := by omega
          have := (inv_later hp' hv' hn h1 ht1 ht2 hg).2
          rw [drop_cons hp, hc] at this ⊢
          exact glob_star_mono _ _ _ this
    obtain ⟨t, ht1, ht2, hg2⟩ := hG.1 hg
    by_cases e : t = v
    · rw [e] at hg2; exact Or.inl hg2
    · exact Or.inr ⟨p + 1, rfl, t, by omega, ht2, hg2⟩
  · intro hx
    left
    rw [hG]
    rcases hx with hx | ⟨a, ha, t, ht1, ht2, hg⟩
    · exact ⟨v, Nat.le_refl _, h2, hx⟩
    · obtain rfl : a = p + 1 := by omega
      exact ⟨t, by omega, ht2, hg⟩
theorem inv_char {P V : Bs} {p v : Nat} {s : Int} {st : Nat} (h : Inv P V p v s st) (hp : p < P.length) (hv : v < V.length) (hc : P[p] ≠ 42) (hm : P[p] = 63 ∨ P[p] = V[v]) :
    Inv P V (p + 1) (v + 1) s st := by
  obtain ⟨h1, h2, h3, h4, h5⟩ := h
  refine ⟨by omega, by omega, by omega, ?_, ?_⟩
  · rcases h4 with h4 | ⟨a, n, ha, hp', hv', hn⟩
    · exact Or.inl h4
    · refine Or.inr ⟨a, n + 1, ha, by omega, by omega, ?_⟩
      have hlt : n < (P.drop a).length := by simp only [List.length_drop]; omega
      rw [List.take_succ_eq_append_getElem hlt, List.mem_append]
      rintro (hx | hx)
      · exact hn hx
      · rw [List.mem_singleton, List.getElem_drop] at hx
        exact hc (by rw [hx]; congr 1)
  · rw [h5, drop_cons hp, drop_cons hv, glob_cons _ _ _ _ hc]
    have : (decide (P[p] = 63) || decide (P[p] = V[v])) = true := by simpa using hm
    rw [this, Bool.true_and]
/-- It does not fit here. -/
def Stuck (P V : Bs) (p v : Nat) : Prop := glob (P.drop p) (V.drop v) = false
theorem stuck_end {P V : Bs} {p v : Nat} (hp : P.length ≤ p) (hv : v < V.length) : Stuck P V p v := by
  unfold Stuck
  rw [List.drop_eq_nil_of_le hp, drop_cons hv]; rfl
theorem stuck_char {P V : Bs} {p v : Nat} (hp : p < P.length) (hv : v < V.length) (hc : P[p] ≠ 42) (hm : ¬ (P[p] = 63 ∨ P[p] = V[v])) : Stuck P V p v := by
  unfold Stuck
  rw [drop_cons hp, drop_cons hv, glob_cons _ _ _ _ hc]
  have : (decide (P[p] = 63) || decide (P[p] = V[v])) = false := by simpa using hm
  rw [this, Bool.false_and]
theorem inv_retry {P V : Bs} {p v : Nat} {a st : Nat} (h : Inv P V p v (a : Int) st) (hs : Stuck P V p v) (hv : v < V.length) : Inv P V a (st + 1) (a : Int) (st + 1) := by
  obtain ⟨h1, h2, h3, h4, h5⟩ := h
  have hap : a ≤ p := by
    rcases h4 with h4 | ⟨a', n, ha', hp', _, _⟩ <;> omega
  refine ⟨by omega, by omega, Nat.le_refl _, Or.inr ⟨a, 0, rfl, rfl, rfl, by simp⟩, ?_⟩
  rw [h5, hs]
  constructor
  · rintro (hx | ⟨a', ha, t, ht1, ht2, hg⟩)
    · cases hx
    · obtain rfl : a' = a := by omega
      by_cases e : t = st + 1
      · subst e; exact Or.inl hg
      · exact Or.inr ⟨a', rfl, t, by omega, ht2, hg⟩
  · rintro (hx | ⟨a', ha, t, ht1, ht2, hg⟩)
    · exact Or.inr ⟨a, rfl, st + 1, by omega, by omega, hx⟩
    · exact Or.inr ⟨a', ha, t, by omega, ht2, hg⟩
theorem inv_dead {P V : Bs} {p v : Nat} {s : Int} {st : Nat} (h : Inv P V p v s st) (hs : Stuck P V p v) (hn : s < 0) : glob P V = false := by
  rw [Bool.eq_false_iff, ne_eq, h.2.2.2.2, hs]
  rintro (hx | ⟨a, ha, _⟩)
  · cases hx
  · omega
theorem inv_end {P V : Bs} {p v : Nat} {s : Int} {st : Nat} (h : Inv P V p v s st) (hv : V.length ≤ v) : glob P V = (P.drop p).all (fun c => decide (c = 42)) := by
  obtain ⟨h1, h2, h3, h4, h5⟩ := h
  rw [Bool.eq_iff_iff, h5, List.drop_eq_nil_of_le hv, glob_end]
  constructor
  · rintro (hx | ⟨a, ha, t, ht1, ht2, hg⟩)
    · exact hx
    · rcases h4 with h4 | ⟨a', n, ha', hp', hv', hn⟩
      · omega
      · obtain rfl : a = a' := by omega
        have := (inv_later hp' hv' hn h1 ht1 ht2 hg).1
        omega
  · exact fun hx => Or.inl hx
theorem inv_bounds {P V : Bs} {p v : Nat} {s : Int} {st : Nat} (h : Inv P V p v s st) : p ≤ P.length ∧ v ≤ V.length ∧ st ≤ v ∧ -1 ≤ s ∧ s ≤ P.length := by
  obtain ⟨h1, h2, h3, h4, _⟩ := h
  rcases h4 with h4 | ⟨a', n, ha', hp', _, _⟩ <;> exact ⟨h1, h2, h3, by omega, by omega⟩
/-- How much is left to be tried. -/
def leftG (P V : Bs) (p v st : Nat) : Nat := (V.length - st) * (P.length + V.length + 1) + (P.length - p) + (V.length - v)
theorem left_retry {P V : Bs} {p v a st : Nat} (h : st < V.length) : leftG P V a (st + 1) (st + 1) < leftG P V p v st := by
  unfold leftG
  obtain ⟨d, hd⟩ : ∃ d, V.length - st = d + 1 := ⟨V.length - st - 1, by omega⟩
  rw [hd, show V.length - (st + 1) = d by omega, Nat.succ_mul]
  omega
theorem left_star {P V : Bs} {p v st : Nat} (hp : p < P.length) (h : st ≤ v) : leftG P V (p + 1) v v < leftG P V p v st := by
  unfold leftG
  have : (V.length - v) * (P.length + V.length + 1) ≤ (V.length - st) * (P.length + V.length + 1) := Nat.mul_le_mul_right _ (by omega)
  omega
theorem left_char {P V : Bs} {p v st : Nat} (hp : p < P.length) : leftG P V (p + 1) (v + 1) st < leftG P V p v st := by
  unfold leftG
  omega
theorem dropWhile_nil (q : UInt8 → Bool) : ∀ (l : Bs), l.dropWhile q = [] ↔ ∀ x ∈ l, q x = true
  | [] => by simp
  | c :: l => by
    rw [List.dropWhile_cons]
    by_cases h : q c = true
    · rw [if_pos h, dropWhile_nil q l]; simp [h]
    · rw [if_neg h]; simp [h]
theorem takeWhile_all (q : UInt8 → Bool) : ∀ (l : Bs), ∀ x ∈ l.takeWhile q, q x = true
  | [], x, h => by simp at h
  | c :: l, x, h => by
    rw [List.takeWhile_cons] at h
    by_cases hc : q c = true
    · rw [if_pos hc, List.mem_cons] at h
      rcases h with rfl | h
      · exact hc
      · exact takeWhile_all q l x h
    · rw [if_neg hc] at h; simp at h
theorem trim_all (l : Bs) : (Lib.trimB l 42 = []) ↔ l.all (fun c => decide (c = 42)) = true := by
  unfold Lib.trimB Lib.trimLeftB Lib.trimRightB
  rw [dropWhile_nil]
  simp only [List.mem_reverse, List.all_eq_true, decide_eq_true_eq, beq_iff_eq]
  constructor
  · intro h x hx
    have := List.takeWhile_append_dropWhile (p := fun y : UInt8 => y == 42) (l := l.reverse)
    have hx' : x ∈ l.reverse := List.mem_reverse.2 hx
    rw [← this, List.mem_append] at hx'
    rcases hx' with hx' | hx'
    · simpa using takeWhile_all _ _ _ hx'
    · exact h x hx'
  · intro h x hx
    exact h x (List.mem_reverse.1 ((List.dropWhile_sublist _).mem hx))

/- What fits a pattern, kind by kind. -/
def leB (a b : Bs) : Bool := Op.bytesLess a b || a == b
def withinB (f t v : Bs) : Bool := leB f v && (decide (t = []) || leB v t)
def fillB (m : Bs) : Nat → Bs → Bs
  | 0, t => t
  | n + 1, t => if t ≠ [] ∧ t.length < 6 then fillB m n (t ++ m) else t
def filledB (t m : Bs) : Bs := fillB m 6 t
theorem fill_stop (m : Bs) (n : Nat) (t : Bs) (h : ¬ (t ≠ [] ∧ t.length < 6)) : fillB m n t = t := by
  cases n with
  | zero => rfl
  | succ n => rw [fillB, if_neg h]
theorem fill_go (m : Bs) (n : Nat) (t : Bs) (h : t ≠ [] ∧ t.length < 6) : fillB m (n + 1) t = fillB m n (t ++ m) := by rw [fillB, if_pos h]
def cutB (p : Bs) : Bs × Bs × Bool := Lib.cut p [45]
def fitsDateB (p v : Bs) : Bool := if (cutB p).2.2 then withinB (cutB p).1 (cutB p).2.1 v else v == (cutB p).1
def fitsTimeB (p v : Bs) : Bool :=
  if (cutB p).2.2 then withinB (filledB (cutB p).1 [48, 48]) (filledB (cutB p).2.1 [53, 57]) (filledB v [48, 48])
  else Lib.hasPrefix v (cutB p).1 || Lib.hasPrefix (cutB p).1 v
def sameB (p v : Bs) : Bool := decide ((numB p).getD 0 = (numB v).getD 0)
def spanB (k p : Bs) : Bool :=
  if (cutB p).2.2 then !decide (p = [45]) && decide (chk k (cutB p).1 = 0) && decide (chk k (cutB p).2.1 = 0) else decide (chkF k (cutB p).1 = 0)
def isPatB (k p : Bs) : Bool :=
  if k = [76, 79] ∨ k = [80, 78] ∨ k = [67, 83] then isTextB p
  else if k = [85, 73] then (spl 92 p).all fun x => decide (chkF k x = 0)
  else if k = [68, 65] ∨ k = [84, 77] then spanB k p
  else decide (chkF k p = 0)
def fitsB (k p v : Bs) : Bool :=
  if k = [80, 78] then glob (Lib.toLowerA p) (Lib.toLowerA v)
  else if k = [76, 79] ∨ k = [67, 83] then glob p v
  else if v = [] then false
  else if k = [68, 65] then fitsDateB p v
  else if k = [84, 77] then fitsTimeB p v
  else if k = [73, 83] then sameB p v
  else decide (v ∈ spl 92 p)
def matchV (k p v : Bs) : Bool := if chk k v ≠ 0 then false else if p = [] then true else if isPatB k p then fitsB k p v else false
def matchE (k p v : Bs) : Int := if chk k v ≠ 0 then chk k v else if p = [] then 0 else if isPatB k p then 0 else 12
end Go.Proofs.YtaokifbpakbgdaaGreatDoor

/- What fitsText of package value answers. -/
namespace Go.Proofs.YtaokifbpakbgdaaGreatDoor
open Go.RowKit

theorem len_list (s : ByteArray) : s.data.toList.length = s.size := by simp
theorem byte_eq {c : UInt8} (n : UInt8) : c = n ↔ (c.toNat : Int) = (n.toNat : Int) := by
  rw [← UInt8.toNat_inj]; omega
def leftOf (P V : Bs) (a b d : Value) : Nat := leftG P V (intOf a).toNat (intOf b).toNat (intOf d).toNat

theorem to_nat1 (k : Nat) : ((k : Int) + 1).toNat = k + 1 := by omega
theorem fitsText_any (pat v : ByteArray) (w : World) (hp : pat.size ≤ 9223372036854775806) (hv : v.size ≤ 9223372036854775806) :
    Calls Tryz.prog 69 #[.string pat, .string v] w fun e w' => e = .returned (.bool (glob pat.data.toList v.data.toList)) ∧ Up w w' := by
  have hP : Hid (pat.data.toList.length = pat.size) := len_list pat
  have hV : Hid (v.data.toList.length = v.size) := len_list v
  go_enter Tryz.func69, Tryz.ntmps69
  go_wp2
  go_loopw [5, 6, 7, 8] (fun a b c d wr => ∃ (i j st n : Nat) (s : Int), a = .int .i64 i ∧ b = .int .i64 j ∧ c = .int .i64 s ∧ d = .int .i64 st ∧ Hid (Inv pat.data.toList v.data.toList i j s st) ∧ wr = w.drewN n) (fun a b _ d _ => leftOf pat.data.toList v.data.toList a b d)
  case atStart => exact ⟨0, 0, 0, 0, -1, rfl, rfl, rfl, rfl, inv_start _ _, rfl⟩
  case round =>
    obtain ⟨i, j, st, n, s, rfl, rfl, rfl, rfl, hI, rfl⟩ := hrel
    obtain ⟨b1, b2, b3, b4, b5⟩ := inv_bounds hI.out
    rw [hP.out] at b1 b5
    rw [hV.out] at b2
    by_cases hj : j < v.size
    · by_cases hi : i < pat.size
      · by_cases h42 : (pat[i].toNat : Int) = 42
        · go_wp2
          go_roundw
          case rel => exact ⟨i + 1, j, j, n, _, by go_num, rfl, by go_num, rfl, inv_star hI.out (by rw [hP.out]; exact hi) ((byte_eq 42).2 h42), rfl⟩
          case measure => simp only [leftOf, intOf, to_nat1]; exact left_star (by rw [hP.out]; exact hi) b3
        · by_cases h63 : (pat[i].toNat : Int) = 63
          · go_wp2
            go_quiet (fail)
            go_wp2
            go_roundw
            case rel => exact ⟨i + 1, j + 1, st, _, s, by go_num, by go_num, rfl, rfl, inv_char hI.out (by rw [hP.out]; exact hi) (by rw [hV.out]; exact hj) (fun e => h42 ((byte_eq 42).1 e)) (Or.inl ((byte_eq 63).2 h63)), rfl⟩
            case measure => simp only [leftOf, intOf, to_nat1]; exact left_char (by rw [hP.out]; exact hi)
          · have g63 : ((pat[i].toNat : Int) == 63) = false := by simpa using h63
            by_cases hq : (pat[i].toNat : Int) = (v[j].toNat : Int)
            · have gq : ((pat[i].toNat : Int) == (v[j].toNat : Int)) = true := by simpa using hq
              have HQ : Hid ((pat[i].toNat : Int) = (v[j].toNat : Int)) := hq
              clear hq
              go_wp2
              go_quiet (fail)
              go_wp2
              go_roundw
              case rel => exact ⟨i + 1, j + 1, st, _, s, by go_num, by go_num, rfl, rfl, inv_char hI.out (by rw [hP.out]; exact hi) (by rw [hV.out]; exact hj) (fun e => h42 ((byte_eq 42).1 e)) (Or.inr ((byte_eq _).2 HQ.out)), rfl⟩
              case measure => simp only [leftOf, intOf, to_nat1]; exact left_char (by rw [hP.out]; exact hi)
            · have gq : ((pat[i].toNat : Int) == (v[j].toNat : Int)) = false := by simpa using hq
              by_cases hs0 : 0 ≤ s
              · obtain ⟨a, rfl⟩ : ∃ a : Nat, s = a := ⟨s.toNat, by omega⟩
                go_wp2
                go_quiet (fail)
                go_wp2
                go_roundw
                case rel => exact ⟨a, st + 1, st + 1, _, _, rfl, by go_num, rfl, by go_num, inv_retry hI.out (stuck_char (by rw [hP.out]; exact hi) (by rw [hV.out]; exact hj) (fun e => h42 ((byte_eq 42).1 e)) (fun e => e.elim (fun e => h63 ((byte_eq 63).1 e)) (fun e => hq ((byte_eq _).1 e)))) (by rw [hV.out]; exact hj), rfl⟩
                case measure => simp only [leftOf, intOf, to_nat1]; exact left_retry (by rw [hV.out]; omega)
              · go_wp2
                go_quiet (fail)
                go_wp2
                go_ret
                exact ⟨vret_bool (inv_dead hI.out (stuck_char (by rw [hP.out]; exact hi) (by rw [hV.out]; exact hj) (fun e => h42 ((byte_eq 42).1 e)) (fun e => e.elim (fun e => h63 ((byte_eq 63).1 e)) (fun e => hq ((byte_eq _).1 e)))) (by omega)).symm, Up.drewN (Up.refl _) _⟩
      · have gi : decide ((i : Int) < (pat.size : Int)) = false := by simp; omega
        by_cases hs0 : 0 ≤ s
        · obtain ⟨a, rfl⟩ : ∃ a : Nat, s = a := ⟨s.toNat, by omega⟩
          go_wp2
          go_quiet (fail)
          go_wp2
          go_roundw
          case rel => exact ⟨a, st + 1, st + 1, _, _, rfl, by go_num, rfl, by go_num, inv_retry hI.out (stuck_end (by rw [hP.out]; omega) (by rw [hV.out]; exact hj)) (by rw [hV.out]; exact hj), rfl⟩
          case measure => simp only [leftOf, intOf, to_nat1]; exact left_retry (by rw [hV.out]; omega)
        · go_wp2
          go_quiet (fail)
          go_wp2
          go_ret
          exact ⟨vret_bool (inv_dead hI.out (stuck_end (by rw [hP.out]; omega) (by rw [hV.out]; exact hj)) (by omega)).symm, Up.drewN (Up.refl _) _⟩
    · go_wp2_with (go_at_call 125; refine (Tryz.strings_Trim_one _ 42 (by decide) _ (by simp; omega)).mono ?_; rintro e w' ⟨rfl, hw⟩)
      go_ret
      refine ⟨vret_bool ?_, ?_⟩
      · rw [inv_end hI.out (by rw [hV.out]; omega), List.take_of_length_le (by rw [List.length_drop, hP.out]; omega), Bool.eq_iff_iff, List.isEmpty_iff, trim_all]
      · rcases hw with rfl | rfl
        · exact Up.drewN (Up.refl _) _
        · exact Up.drew (Up.drewN (Up.refl _) _)
end Go.Proofs.YtaokifbpakbgdaaGreatDoor
