/-
  What isName, checkFilled and Check of package value answer.
-/
import Derived.Test.YtaokifbpakbgdaaGreatDoorValue1
namespace Go.Proofs.YtaokifbpakbgdaaGreatDoor
open Go.RowKit

/-- strings.Split at one byte: the parts, in a block of their own. -/
theorem split_one (s : ByteArray) (c : UInt8) (w : World) (hs : s.size < 4294967281) (hv : Vars w) :
    Calls Tryz.prog 123 #[.string s, .string ⟨#[c]⟩] w fun e w' => ∃ (b : Nat) (zs : List ByteArray), e = .returned (.slice (some ⟨b, 0, none⟩) zs.length zs.length) ∧
      zs.map (·.data.toList) = spl c s.data.toList ∧ zs.length ≤ s.size + 1 ∧ (∀ (j : Nat) (h : j < zs.length), w'.cell? ⟨b, j, none⟩ = some (.string zs[j])) ∧ Up w w' := by
  obtain ⟨⟨m, hm⟩, _⟩ := hv
  refine (Tryz.strings_Split s ⟨#[c]⟩ m w hs hm (Nat.le_refl 1)).mono ?_
  rintro e w' ⟨rfl, rfl⟩
  have hlen := Lib.splitB_all (⟨#[c]⟩ : ByteArray) (Nat.le_refl 1) 0 _ s rfl
  have hle := Lib.countB_le (⟨#[c]⟩ : ByteArray) (Nat.le_refl 1) s.size s (Nat.le_refl _)
  refine ⟨w.heap.size, Lib.splitB ⟨#[c]⟩ 0 (Lib.countB s ⟨#[c]⟩) s, by rw [hlen], splitB_one s c, by omega, fun j h => ?_, Up.alloc (Up.refl _) _⟩
  rw [World.cell?_alloc_new, List.getElem?_toArray, List.getElem?_map, List.getElem?_eq_getElem h]; rfl
theorem of_parts {zs : List ByteArray} {c : UInt8} {l : Bs} {p : Bs → Bool} (h : zs.map (·.data.toList) = spl c l) : (spl c l).all p = zs.all fun z => p z.data.toList := by
  rw [← h, List.all_map]; rfl
theorem part_size {zs : List ByteArray} {c : UInt8} {l : Bs} (h : zs.map (·.data.toList) = spl c l) {j : Nat} (hj : j < zs.length) : zs[j].size ≤ l.length := by
  have : zs[j].data.toList ∈ spl c l := by rw [← h]; exact List.mem_map_of_mem (List.getElem_mem hj)
  have hb : ∀ (l : Bs) (x : Bs), x ∈ spl c l → x.length ≤ l.length := by
    intro l
    induction l with
    | nil => intro x hx; simp [spl] at hx; simp [hx]
    | cons y l ih =>
      intro x hx
      unfold spl at hx
      split at hx
      · simp at hx
        rcases hx with rfl | hx
        · simp
        · have := ih x hx; simp; omega
      · simp at hx
        rcases hx with rfl | hx
        · have hne := spl_ne c l
          have := ih ((spl c l).headD []) (by cases h : spl c l with | nil => exact absurd h hne | cons a r => simp)
          simp at this ⊢; omega
        · have := ih x (List.mem_of_mem_tail hx); simp; omega
  have := hb l _ this
  simpa using this
theorem takeAll_next {zs : List ByteArray} {p : ByteArray → Bool} {k : Nat} (hk : k < zs.length) (h : (zs.take k).all p = true) (hp : p zs[k] = true) : (zs.take (k + 1)).all p = true := by
  rw [List.take_succ_eq_append_getElem hk, List.all_append, h]; simp [hp]
theorem takeAll_fail {zs : List ByteArray} {p : ByteArray → Bool} {k : Nat} (hk : k < zs.length) (hp : p zs[k] = false) : zs.all p = false := by
  rw [List.all_eq_false]
  exact ⟨zs[k], List.getElem_mem hk, by simp [hp]⟩
theorem takeAll_end {zs : List ByteArray} {p : ByteArray → Bool} {k : Nat} (hk : zs.length ≤ k) (h : (zs.take k).all p = true) : zs.all p = true := by
  rwa [List.take_of_length_le hk] at h

theorem part_empty {z : ByteArray} (h : z.toList = []) : partB z.data.toList = false := by
  rw [Lib.toList_data] at h; rw [h]; rfl
theorem part_dig {z : ByteArray} (h : digitsB z.data.toList = false) : partB z.data.toList = false := by unfold partB; rw [h]; simp
theorem head_of {z : ByteArray} (h0 : 0 < z.size) : z.data.toList.head? = some z[0] := by
  rw [List.head?_eq_getElem?, List.getElem?_eq_getElem (by simpa using h0)]; rfl
theorem byte_of {c : UInt8} {n : UInt8} (h : (c.toNat : Int) = (n.toNat : Int)) : c = n := UInt8.toNat_inj.1 (by omega)
theorem part_zero {z : ByteArray} (h0 : 0 < z.size) (h48 : (z[0].toNat : Int) = 48) (hq : ¬ z.toList = [48]) : partB z.data.toList = false := by
  rw [Lib.toList_data] at hq
  unfold partB
  rw [head_of h0, byte_of (n := 48) h48, decide_eq_false hq]; simp
theorem part_one {z : ByteArray} (hq : z.toList = [48]) : partB z.data.toList = true := by
  rw [Lib.toList_data] at hq; rw [hq]; decide
theorem part_ok {z : ByteArray} (h0 : 0 < z.size) (hd : digitsB z.data.toList = true) (h48 : ¬ (z[0].toNat : Int) = 48) : partB z.data.toList = true := by
  have hne : ¬ z.data.toList = [] := fun e => by
    have h1 : z.data.toList.length = 0 := by rw [e]; rfl
    have h2 : z.data.toList.length = z.size := by simp
    omega
  have h1 : ¬ (some z[0] = some (48 : UInt8)) := fun e => h48 (by rw [Option.some.inj e]; rfl)
  unfold partB
  rw [head_of h0, hd, decide_eq_false hne, decide_eq_false h1]; rfl
theorem isName_any (s : ByteArray) (w : World) (hs : s.size ≤ 9223372036854775807) (hv : Vars w) :
    Calls Tryz.prog 78 #[.string s] w fun e w' => e = .returned (.bool (nameB s.data.toList)) ∧ Up w w' := by
  have hl : Hid (s.data.toList.length = s.size) := by unfold Hid; simp
  by_cases h64 : s.size ≤ 64
  · have hN : Hid (nameB s.data.toList = (spl 46 s.data.toList).all partB) := by unfold Hid nameB; rw [hl.out, decide_eq_true h64]; rfl
    go_enter Tryz.func78, Tryz.ntmps78
    go_wp2_with (go_at_call 123; refine (split_one s 46 _ (by omega) hv).mono ?_; rintro e w' ⟨b, zs, rfl, hz0, hzl, hzc0, hup⟩)
    have hz : Hid (zs.map (·.data.toList) = spl 46 s.data.toList) := hz0
    have hzc : Hid (∀ (j : Nat) (h : j < zs.length), w'.cell? ⟨b, j, none⟩ = some (.string zs[j])) := hzc0
    clear hz0 hzc0
    go_loop [11, 4] (fun i _ => ∃ k : Nat, k ≤ zs.length ∧ i = .int .i64 k ∧ Hid ((zs.take k).all (fun z => partB z.data.toList) = true)) (fun i _ => zs.length - (intOf i).toNat)
    case atStart => exact ⟨0, Nat.zero_le _, rfl, rfl⟩
    case round =>
      obtain ⟨k, hk, rfl, ha⟩ := hrel
      by_cases hlt : k < zs.length
      · have hc := hzc.out k hlt
        generalize hzk : zs[k] = z at hc
        have hsz : z.size ≤ 64 := by have := part_size hz.out hlt; rw [hzk, hl.out] at this; omega
        have HZ : Hid (zs[k] = z) := hzk
        clear hzk
        by_cases he : z.toList = []
        · go_wp2
          go_ret
          exact ⟨vret_bool (by rw [hN.out, of_parts hz.out]; exact (takeAll_fail hlt (by rw [HZ.out]; exact part_empty he)).symm), hup⟩
        · have h0 : 0 < z.size := by
            rcases Nat.eq_zero_or_pos z.size with h | h
            · exact absurd (by rw [Lib.toList_data]; exact List.eq_nil_of_length_eq_zero (by simpa using h)) he
            · exact h
          have hie : z.toList.isEmpty = false := by simpa using he
          cases hd : digitsB z.data.toList
          · go_wp2_with (go_at_call 141; refine (isDigits_any _ _ (by omega)).mono ?_; rintro e w' ⟨rfl, rfl⟩)
            go_ret
            exact ⟨vret_bool (by rw [hN.out, of_parts hz.out]; exact (takeAll_fail hlt (by rw [HZ.out]; exact part_dig hd)).symm), hup⟩
          · by_cases h48 : (z[0].toNat : Int) = 48
            · by_cases hq : z.toList = [48]
              · go_wp2_with (go_at_call 141; refine (isDigits_any _ _ (by omega)).mono ?_; rintro e w' ⟨rfl, rfl⟩)
                go_round
                case rel => exact ⟨k + 1, by omega, by go_num, takeAll_next hlt ha.out (by rw [HZ.out]; exact part_one hq)⟩
                case measure => simp [intOf]; omega
              · have hq' : (z.toList == [48]) = false := by simpa using hq
                go_wp2_with (go_at_call 141; refine (isDigits_any _ _ (by omega)).mono ?_; rintro e w' ⟨rfl, rfl⟩)
                go_ret
                exact ⟨vret_bool (by rw [hN.out, of_parts hz.out]; exact (takeAll_fail hlt (by rw [HZ.out]; exact part_zero h0 h48 hq)).symm), hup⟩
            · go_wp2_with (go_at_call 141; refine (isDigits_any _ _ (by omega)).mono ?_; rintro e w' ⟨rfl, rfl⟩)
              go_round
              case rel => exact ⟨k + 1, by omega, by go_num, takeAll_next hlt ha.out (by rw [HZ.out]; exact part_ok h0 hd h48)⟩
              case measure => simp [intOf]; omega
      · go_wp2
        go_ret
        exact ⟨vret_bool (by rw [hN.out, of_parts hz.out]; exact (takeAll_end (by omega) ha.out).symm), hup⟩
  · go_enter Tryz.func78, Tryz.ntmps78
    go_wp2
    go_ret
    exact ⟨vret_bool (by unfold nameB; rw [hl.out, decide_eq_false h64]; rfl), Up.refl _⟩
end Go.Proofs.YtaokifbpakbgdaaGreatDoor
