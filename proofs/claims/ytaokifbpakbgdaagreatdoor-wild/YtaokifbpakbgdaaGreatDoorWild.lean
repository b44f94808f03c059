/-
  Wild (P6: a pattern made of a text by * and ? fits it, and not with a byte more) returns true for every two lists of integers, at this commit of the program.
  Conditions: none beyond the card's own (the listed variables of the library as their text lays them).
-/
import Derived.Test.YtaokifbpakbgdaaGreatDoorFrame
import Derived.Test.YtaokifbpakbgdaaGreatDoorWildF
import Derived.Test.YtaokifbpakbgdaaGreatDoorWildText
namespace Go.Proofs.YtaokifbpakbgdaaGreatDoor
open Go.ChangeShapes Go.WideShapes Go.ChangeAt Go.RowKit

/-- A list of integers that came in. -/
def Ints (w : World) (b off len : Nat) (Z : Nat → Int) : Prop := ∀ j, j < len → w.cell? ⟨b, off + j, none⟩ = some (.int .i64 (Z j)) ∧ -9223372036854775808 ≤ Z j ∧ Z j ≤ 9223372036854775807
theorem Ints.up {w w' : World} {b off len : Nat} {Z : Nat → Int} (h : Ints w b off len Z) (k : Up w w') : Ints w' b off len Z := fun j hj => ⟨k.cell (h j hj).1, (h j hj).2⟩
theorem ofNat_byte (c : UInt8) : UInt8.ofNat ((c.toNat : Int)).toNat = c := by simp
theorem alpha_snoc (s : ByteArray) (z : Int) (h : Hid (∀ c ∈ s.data.toList, c ∈ alphabet)) (hz : UInt8.ofNat z.toNat ∈ alphabet) : Hid (∀ c ∈ (s ++ oneB z).data.toList, c ∈ alphabet) := by
  intro c hc
  rw [data_append, one_data, List.mem_append, List.mem_singleton] at hc
  rcases hc with hc | rfl
  · exact h.out c hc
  · exact hz
theorem lettered_mk (s : ByteArray) (hs : s.size ≤ 40) (h : Hid (∀ c ∈ s.data.toList, c ∈ alphabet)) : Hid (Lettered (s ++ ⟨#[122]⟩).data.toList) :=
  ⟨s.data.toList, by rw [data_append], by rw [len_list]; exact hs, h.out⟩
set_option maxRecDepth 20000 in
set_option maxHeartbeats 2000000 in
theorem letters_any (a : Option Addr) (b off len cap : Nat) (Z : Nat → Int) (w : World) (ha : Hid (0 < len → a = some ⟨b, off, none⟩)) (hlen : len ≤ 9223372036854775807) (hc : Hid (Ints w b off len Z)) :
    Calls Tryz.prog 23 #[.slice a len cap] w fun e w' => (∃ v : ByteArray, e = .returned (.string v) ∧ Hid (Lettered v.data.toList)) ∧ Up w w' := by
  go_enter Tryz.func23, Tryz.ntmps23
  go_wp2
  go_loopw [3, 4] (fun x y wr => ∃ (s : ByteArray) (i : Nat), x = .string s ∧ y = .int .i64 i ∧ i ≤ len ∧ s.size ≤ 40 ∧ Hid (∀ c ∈ s.data.toList, c ∈ alphabet) ∧ Up w wr) (fun _ y _ => len - (intOf y).toNat)
  case atStart => exact ⟨⟨#[]⟩, 0, rfl, rfl, by omega, by decide, fun c hc => by simp at hc, Up.refl _⟩
  case round =>
    obtain ⟨s, i, rfl, rfl, hi, hs, hm, hup⟩ := hrel
    by_cases hlt : i < len
    · by_cases h40 : s.size < 40
      · obtain rfl := ha.out (by omega)
        have hci := (hc.out.up hup) i hlt
        have hcell := hci.1
        have hr := vpk_bd (Z i) 10 (by omega)
        go_wp2_with fail
        go_at_call 24; refine (vpick_any _ _ _ hci.2.1 hci.2.2 (by omega) (by omega)).mono ?_; rintro e w1 ⟨rfl, rfl⟩
        generalize vpk (Z i) 10 = r at hr
        have hb : r.toNat < (⟨#[97, 98, 99, 65, 66, 67, 32, 120, 94, 49]⟩ : ByteArray).size := by show r.toNat < 10; omega
        have hu := UInt8.toNat_lt ((⟨#[97, 98, 99, 65, 66, 67, 32, 120, 94, 49]⟩ : ByteArray)[r.toNat]'hb)
        have cv := conv_one w1 ((((⟨#[97, 98, 99, 65, 66, 67, 32, 120, 94, 49]⟩ : ByteArray)[r.toNat]'hb).toNat : Nat) : Int) (by omega) (by omega)
        have ho := one_size ((((⟨#[97, 98, 99, 65, 66, 67, 32, 120, 94, 49]⟩ : ByteArray)[r.toNat]'hb).toNat : Nat) : Int)
        go_wp2
        go_roundw
        case rel => exact ⟨s ++ oneB ((((⟨#[97, 98, 99, 65, 66, 67, 32, 120, 94, 49]⟩ : ByteArray)[r.toNat]'hb).toNat : Nat) : Int), i + 1, rfl, by go_num, by omega, by rw [ByteArray.size_append, one_size]; omega, alpha_snoc s _ hm (by rw [ofNat_byte]; exact Array.mem_toList_iff.2 (Array.getElem_mem hb)), Up.alloc hup _⟩
        case measure => simp [intOf]; omega
      · have hd : decide ((s.size : Int) < 40) = false := by simp; omega
        go_wp2
        go_ret
        exact ⟨⟨_, rfl, lettered_mk s hs hm⟩, hup⟩
    · go_wp2
      go_ret
      exact ⟨⟨_, rfl, lettered_mk s hs hm⟩, hup⟩
theorem raw_any (a : Option Addr) (b off len cap : Nat) (Z : Nat → Int) (i : Nat) (w : World) (ha : Hid (0 < len → a = some ⟨b, off, none⟩)) (hlen : len ≤ 9223372036854775807) (hc : Hid (Ints w b off len Z)) :
    Calls Tryz.prog 25 #[.slice a len cap, .int .i64 i] w fun e w' => (∃ z : Int, e = .returned (.int .i64 z) ∧ -9223372036854775808 ≤ z ∧ z ≤ 9223372036854775807) ∧ w' = w := by
  by_cases hlt : i < len
  · obtain rfl := ha.out (by omega)
    have hci := hc.out i hlt
    have hcell := hci.1
    go_enter Tryz.func25, Tryz.ntmps25
    go_wp2
    go_ret
    exact ⟨⟨_, rfl, hci.2⟩, rfl⟩
  · go_enter Tryz.func25, Tryz.ntmps25
    go_wp2
    go_ret
    exact ⟨⟨_, rfl, by omega, by omega⟩, rfl⟩

theorem sub_one (v : ByteArray) (i : Nat) (h : i < v.size) : (v.extract i (i + 1)).data.toList = [v[i]] := by
  rw [sub_data, Nat.add_sub_cancel_left, List.drop_eq_getElem_cons (by rw [len_list]; exact h)]
  rfl
theorem sub_one_size (v : ByteArray) (i : Nat) (h : i < v.size) : (v.extract i (i + 1)).size = 1 := by rw [sub_size v i (i + 1) (by omega)]; omega
theorem low_up (c : UInt8) (h1 : 65 ≤ (c.toNat : Int)) (h2 : (c.toNat : Int) ≤ 90) : UInt8.ofNat ((c.toNat : Int) + 32).toNat = Lib.lowerB c := by
  have := of_fin (fun c => !(decide (65 ≤ c.toNat) && decide (c.toNat ≤ 90)) || decide (UInt8.ofNat (c.toNat + 32) = Lib.lowerB c)) (by decide +kernel) c
  have e : ((c.toNat : Int) + 32).toNat = c.toNat + 32 := by omega
  have a1 : 65 ≤ c.toNat := by omega
  have a2 : c.toNat ≤ 90 := by omega
  rw [e]
  simpa [a1, a2] using this
theorem low_id (c : UInt8) (h : ¬ (65 ≤ (c.toNat : Int) ∧ (c.toNat : Int) ≤ 90)) : UInt8.ofNat ((c.toNat : Int)).toNat = Lib.lowerB c := by
  have := of_fin (fun c => (decide (65 ≤ c.toNat) && decide (c.toNat ≤ 90)) || decide (c = Lib.lowerB c)) (by decide +kernel) c
  rw [ofNat_byte]
  have h' : (decide (65 ≤ c.toNat) && decide (c.toNat ≤ 90)) = false := by simp; omega
  rw [h', Bool.false_or, decide_eq_true_eq] at this
  exact this
set_option maxRecDepth 20000 in
set_option maxHeartbeats 8000000 in
theorem wild_walk (a1 a2 : Option Addr) (b1 f1 n1 c1 b2 f2 n2 c2 : Nat) (Z1 Z2 : Nat → Int) (w : World) (hv : Vars w)
    (ha1 : Hid (0 < n1 → a1 = some ⟨b1, f1, none⟩)) (hn1 : n1 ≤ 9223372036854775807) (hc1 : Hid (Ints w b1 f1 n1 Z1))
    (ha2 : Hid (0 < n2 → a2 = some ⟨b2, f2, none⟩)) (hn2 : n2 ≤ 9223372036854775807) (hc2 : Hid (Ints w b2 f2 n2 Z2)) :
    Calls Tryz.prog 7 #[.slice a1 n1 c1, .slice a2 n2 c2] w fun e w' => e = .returned (.bool true) ∧ Up w w' := by
  have HV := hid hv
  clear hv
  go_enter Tryz.func7, Tryz.ntmps7
  go_wp2_with fail
  go_at_call 23; refine (letters_any _ _ _ _ _ _ _ ha1 hn1 hc1).mono ?_; rintro e w1 ⟨⟨v, rfl, hL⟩, u1⟩
  have U1 := hid u1
  have hvl := lettered_len hL.out
  rw [len_list] at hvl
  clear u1
  go_wp2_with fail
  go_loopw [6, 7] (fun x y wr => ∃ (p : ByteArray) (i : Nat), x = .string p ∧ y = .int .i64 i ∧ i ≤ v.size ∧ p.size ≤ 2 * i ∧ i ≤ p.size ∧ Hid (Made (v.data.toList.take i) p.data.toList) ∧ Hid (Up w wr)) (fun _ y _ => v.size - (intOf y).toNat)
  case atStart => exact ⟨⟨#[]⟩, 0, rfl, rfl, by omega, by decide, by decide, rfl, U1⟩
  case round =>
    obtain ⟨p, i, rfl, rfl, hi, hp2, hp1, hM, hU⟩ := hrel
    by_cases hlt : i < v.size
    · have hsn : Hid (v.data.toList.take (i + 1) = v.data.toList.take i ++ [v[i]]) := take_snoc v i hlt
      have so := sub_one_size v i hlt
      have hC2 := hid (hc2.out.up hU.out)
      go_wp2_with fail
      go_at_call 25; refine (raw_any _ _ _ _ _ _ _ _ ha2 hn2 hC2).mono ?_; rintro e w2 ⟨⟨z, rfl, z1, z2⟩, rfl⟩
      go_wp2_with fail
      go_at_call 24; refine (vpick_any _ _ _ z1 z2 (by omega) (by omega)).mono ?_; rintro e w3 ⟨rfl, rfl⟩
      have hr := vpk_bd z 6 (by omega)
      generalize vpk z 6 = r at hr
      by_cases h0 : r = 0
      · subst h0
        go_wp2
        go_roundw
        case rel => exact ⟨p ++ ⟨#[42]⟩, i + 1, rfl, by go_num, by omega, by rw [ByteArray.size_append]; show p.size + 1 ≤ _; omega, by rw [ByteArray.size_append]; show _ ≤ p.size + 1; omega, by rw [hsn.out, data_append]; exact made_snoc _ _ (Or.inl rfl) _ _ hM.out, hU⟩
        case measure => simp [intOf]; omega
      · by_cases hr1 : r = 1
        · subst hr1
          go_wp2
          go_roundw
          case rel => exact ⟨p ++ ⟨#[63]⟩, i + 1, rfl, by go_num, by omega, by rw [ByteArray.size_append]; show p.size + 1 ≤ _; omega, by rw [ByteArray.size_append]; show _ ≤ p.size + 1; omega, by rw [hsn.out, data_append]; exact made_snoc _ _ (Or.inr (Or.inl rfl)) _ _ hM.out, hU⟩
          case measure => simp [intOf]; omega
        · by_cases hr2 : r = 2
          · subst hr2
            by_cases h50 : p.size < 50
            · have ps : (p ++ ⟨#[42]⟩).size = p.size + 1 := by rw [ByteArray.size_append]; rfl
              go_wp2
              go_roundw
              case rel => exact ⟨p ++ ⟨#[42]⟩ ++ v.extract i (i + 1), i + 1, rfl, by go_num, by omega, by rw [ByteArray.size_append, ps, so]; omega, by rw [ByteArray.size_append, ps, so]; omega, by rw [hsn.out, data_append, data_append, sub_one v i hlt, List.append_assoc]; exact made_snoc _ _ (Or.inr (Or.inr (Or.inr rfl))) _ _ hM.out, hU⟩
              case measure => simp [intOf]; omega
            · go_wp2
              go_roundw
              case rel => exact ⟨p ++ v.extract i (i + 1), i + 1, rfl, by go_num, by omega, by rw [ByteArray.size_append, so]; omega, by rw [ByteArray.size_append, so]; omega, by rw [hsn.out, data_append, sub_one v i hlt]; exact made_snoc _ _ (Or.inr (Or.inr (Or.inl rfl))) _ _ hM.out, hU⟩
              case measure => simp [intOf]; omega
          · go_wp2
            go_roundw
            case rel => exact ⟨p ++ v.extract i (i + 1), i + 1, rfl, by go_num, by omega, by rw [ByteArray.size_append, so]; omega, by rw [ByteArray.size_append, so]; omega, by rw [hsn.out, data_append, sub_one v i hlt]; exact made_snoc _ _ (Or.inr (Or.inr (Or.inl rfl))) _ _ hM.out, hU⟩
            case measure => simp [intOf]; omega
    · have hM' : Hid (Made v.data.toList p.data.toList) := by
        have := hM.out
        rwa [List.take_of_length_le (by rw [len_list]; omega)] at this
      have hiv : i = v.size := by omega
      have hpb : p.size ≤ 82 ∧ 1 ≤ p.size := by omega
      clear hM hiv
      go_wp2
      go_loopw [8, 9] (fun x y wr => ∃ (q : ByteArray) (k : Nat), x = .string q ∧ y = .int .i64 k ∧ k ≤ p.size ∧ q.size = k ∧ Hid (q.data.toList = Lib.toLowerA (p.data.toList.take k)) ∧ Hid (Up w wr)) (fun _ y _ => p.size - (intOf y).toNat)
      case atStart => exact ⟨⟨#[]⟩, 0, rfl, rfl, by omega, rfl, rfl, hU⟩
      case round =>
        obtain ⟨q, k, rfl, rfl, hk, hqs, hq, hU2⟩ := hrel
        by_cases hlt : k < p.size
        · have hsn : Hid (p.data.toList.take (k + 1) = p.data.toList.take k ++ [p[k]]) := take_snoc p k hlt
          have hb := UInt8.toNat_lt p[k]
          by_cases hcap : 65 ≤ (p[k].toNat : Int) ∧ (p[k].toNat : Int) ≤ 90
          · obtain ⟨k1, k2⟩ := hcap
            have cv := conv_one wr ((p[k].toNat : Int) + 32) (by omega) (by omega)
            have ho := one_size ((p[k].toNat : Int) + 32)
            go_wp2
            go_roundw
            case rel => exact ⟨q ++ oneB ((p[k].toNat : Int) + 32), k + 1, rfl, by go_num, by omega, by rw [ByteArray.size_append, one_size]; omega, by unfold Hid; rw [data_append, one_data, hsn.out, hq.out, low_up _ k1 k2]; simp [Lib.toLowerA], hid (Up.alloc hU2.out _)⟩
            case measure => simp [intOf]; omega
          · have hid' := hid hcap
            have cv := conv_one wr (p[k].toNat : Int) (by omega) (by omega)
            have ho := one_size (p[k].toNat : Int)
            have hcc : (p[k].toNat : Int) < 65 ∨ 90 < (p[k].toNat : Int) := by omega
            clear hcap
            rcases hcc with h65 | h90
            · go_wp2
              go_roundw
              case rel => exact ⟨q ++ oneB (p[k].toNat : Int), k + 1, rfl, by go_num, by omega, by rw [ByteArray.size_append, one_size]; omega, by unfold Hid; rw [data_append, one_data, hsn.out, hq.out, low_id _ hid'.out]; simp [Lib.toLowerA], hid (Up.alloc hU2.out _)⟩
              case measure => simp [intOf]; omega
            · have h90' : decide ((p[k].toNat : Int) ≤ 90) = false := by simp; omega
              go_wp2
              go_roundw
              case rel => exact ⟨q ++ oneB (p[k].toNat : Int), k + 1, rfl, by go_num, by omega, by rw [ByteArray.size_append, one_size]; omega, by unfold Hid; rw [data_append, one_data, hsn.out, hq.out, low_id _ hid'.out]; simp [Lib.toLowerA], hid (Up.alloc hU2.out _)⟩
              case measure => simp [intOf]; omega
        · have hq' : Hid (q.data.toList = Lib.toLowerA p.data.toList) := by
            have := hq.out
            rwa [List.take_of_length_le (by rw [len_list]; omega)] at this
          have hqp : q.size = p.size := by omega
          clear hq hqs
          by_cases h63 : p.size ≤ 63
          · have F := hid (wild_facts v.data.toList p.data.toList hL.out hM'.out (by rw [len_list]; exact h63))
            have ps : (p ++ ⟨#[49]⟩).size = p.size + 1 := by rw [ByteArray.size_append]; rfl
            have m1 : ∀ w, Vars w → Calls Tryz.prog 12 #[.string ⟨#[76, 79]⟩, .string p, .string v] w fun e w' => e = .returned (.tuple #[.bool true, .int .i64 0]) ∧ Up w w' := fun w hv => by
              have := Match_any ⟨#[76, 79]⟩ p v w (by omega) (by omega) hv
              rwa [show (⟨#[76, 79]⟩ : ByteArray).data.toList = [76, 79] from rfl, F.out.1.1, F.out.1.2] at this
            have m2 : ∀ w, Vars w → Calls Tryz.prog 12 #[.string ⟨#[76, 79]⟩, .string (p ++ ⟨#[49]⟩), .string v] w fun e w' => e = .returned (.tuple #[.bool false, .int .i64 0]) ∧ Up w w' := fun w hv => by
              have := Match_any ⟨#[76, 79]⟩ (p ++ ⟨#[49]⟩) v w (by omega) (by omega) hv
              rwa [data_append, show (⟨#[76, 79]⟩ : ByteArray).data.toList = [76, 79] from rfl, show (⟨#[49]⟩ : ByteArray).data.toList = [49] from rfl, F.out.2.1.1, F.out.2.1.2] at this
            obtain ⟨cB, hcB⟩ : ∃ cB, Hid (matchV [76, 79] q.data.toList v.data.toList = cB) := ⟨_, rfl⟩
            have m3 : ∀ w, Vars w → Calls Tryz.prog 12 #[.string ⟨#[76, 79]⟩, .string q, .string v] w fun e w' => e = .returned (.tuple #[.bool cB, .int .i64 0]) ∧ Up w w' := fun w hv => by
              have := Match_any ⟨#[76, 79]⟩ q v w (by omega) (by omega) hv
              rw [show (⟨#[76, 79]⟩ : ByteArray).data.toList = [76, 79] from rfl, hcB.out] at this
              rwa [hq'.out, F.out.2.2.1.2] at this
            have hcq : Hid (cB = false → (q.toList == p.toList) = false) := fun e => by
              rw [beq_eq_false_iff_ne]
              intro e2
              rw [Lib.toList_data, Lib.toList_data, hq'.out] at e2
              have := F.out.2.2.1.1 e2
              rw [← hq'.out, hcB.out, e] at this
              cases this
            have m4 : ∀ w, Vars w → Calls Tryz.prog 12 #[.string ⟨#[80, 78]⟩, .string q, .string v] w fun e w' => e = .returned (.tuple #[.bool (decide (v.data.toList.count 94 ≤ 4)), .int .i64 (if v.data.toList.count 94 ≤ 4 then 0 else 6)]) ∧ Up w w' := fun w hv => by
              have := Match_any ⟨#[80, 78]⟩ q v w (by omega) (by omega) hv
              rwa [show (⟨#[80, 78]⟩ : ByteArray).data.toList = [80, 78] from rfl, hq'.out, F.out.2.2.2.1, F.out.2.2.2.2] at this
            clear F
            go_wp2_with fail
            go_at_call 12; refine (m1 _ (HV.out.up hU2.out)).mono ?_; rintro e w5 ⟨rfl, u5⟩
            have U5 := hid (hU2.out.trans u5)
            clear u5
            go_wp2_with fail
            go_at_call 12; refine (m2 _ (HV.out.up U5.out)).mono ?_; rintro e w6 ⟨rfl, u6⟩
            have U6 := hid (U5.out.trans u6)
            clear u6
            go_wp2_with fail
            go_at_call 12; refine (m3 _ (HV.out.up U6.out)).mono ?_; rintro e w7 ⟨rfl, u7⟩
            have U7 := hid (U6.out.trans u7)
            clear u7 m1 m2 m3
            go_wp2_with fail
            go_loop [17, 18] (fun x y => ∃ (k n : Nat), x = .int .i64 n ∧ y = .int .i64 k ∧ k ≤ v.size ∧ n ≤ k ∧ Hid (n = (v.data.toList.take k).count 94)) (fun _ y => v.size - (intOf y).toNat)
            case atStart => exact ⟨0, 0, rfl, rfl, by omega, by omega, rfl⟩
            case round =>
              obtain ⟨k3, n3, rfl, rfl, hk3, hn3, hcnt⟩ := hrel
              by_cases hlt3 : k3 < v.size
              · have hsn : Hid ((v.data.toList.take (k3 + 1)).count 94 = (v.data.toList.take k3).count 94 + if (v[k3].toNat : Int) = 94 then 1 else 0) := by
                  unfold Hid; rw [take_snoc v k3 hlt3, count_snoc]
                by_cases h94 : (v[k3].toNat : Int) = 94
                · go_wp2
                  go_round
                  case rel => exact ⟨k3 + 1, n3 + 1, by go_num, by go_num, by omega, by omega, by unfold Hid; rw [hsn.out, if_pos h94, hcnt.out]⟩
                  case measure => simp [intOf]; omega
                · go_wp2
                  go_round
                  case rel => exact ⟨k3 + 1, n3, rfl, by go_num, by omega, by omega, by unfold Hid; rw [hsn.out, if_neg h94, hcnt.out]; rfl⟩
                  case measure => simp [intOf]; omega
              · have hcnt' : Hid (n3 = v.data.toList.count 94) := by
                  have := hcnt.out
                  rwa [List.take_of_length_le (by rw [len_list]; omega)] at this
                clear hcnt
                go_wp2_with fail
                go_at_call 12; refine (m4 _ (HV.out.up U7.out)).mono ?_; rintro e w8 ⟨rfl, u8⟩
                rw [← hcnt'.out]
                have U8 := hid (U7.out.trans u8)
                clear u8 m4
                by_cases h4 : n3 ≤ 4
                · rw [decide_eq_true h4, if_pos h4]
                  cases cB
                  · have hqq := hcq.out rfl
                    go_wp2
                    go_ret
                    exact ⟨rfl, U8.out⟩
                  · go_wp2
                    go_ret
                    exact ⟨rfl, U8.out⟩
                · rw [decide_eq_false h4, if_neg h4]
                  have h4' : decide ((n3 : Int) ≤ 4) = false := by simp; omega
                  have h5' : decide ((4 : Int) < n3) = true := by simp; omega
                  cases cB
                  · have hqq := hcq.out rfl
                    go_wp2
                    go_ret
                    exact ⟨rfl, U8.out⟩
                  · go_wp2
                    go_ret
                    exact ⟨rfl, U8.out⟩
          · go_wp2
            go_ret
            exact ⟨rfl, hU2.out⟩

theorem laidOut : laidOutB Tryz.prog = true := by kernel_rfl
theorem cells_int : Tryz.prog.cellsOf 3 = 1 := by kernel_rfl
/-- A []int that came in, nil or not, as the walk wants it. -/
theorem open_arg {H : Type} {enc : TypeId × Value → H} {W : World} {a : Option Addr} {len cap fuel : Nat} {x : DataW H × List MemPlace}
    (hf : DataW.trod enc Tryz.prog W 0 (fun _ => true) true fuel 45 [.slice a len cap] = some x) :
    ∃ (b off : Nat) (Z : Nat → Int), (0 < len → a = some ⟨b, off, none⟩) ∧ len ≤ 9223372036854775807 ∧ Ints W b off len Z := by
  rcases open_ints Tryz.underlying45 Tryz.underlying3 cells_int hf with ⟨hcs, _⟩ | ⟨a', len', cap', zs, hcs, _, hl, hm, hz, _, hcell, hwf⟩
  · simp at hcs
    obtain ⟨rfl, rfl, rfl⟩ := hcs
    exact ⟨0, 0, fun _ => 0, fun h => absurd h (by omega), by omega, fun j hj => absurd hj (by omega)⟩
  · simp at hcs
    obtain ⟨rfl, rfl, rfl⟩ := hcs
    simp only [if_true] at hz
    obtain ⟨b, off, spot⟩ := a'
    unfold maxLen at hm
    refine ⟨b, off, fun j => zs.getD j 0, fun h0 => ?_, by omega, fun j hj => ?_⟩
    · have hspot : spot = none := by simpa [Addr.add] using World.cell?_spot (hcell 0 (by omega))
      subst hspot; rfl
    · have hspot : spot = none := by simpa [Addr.add] using World.cell?_spot (hcell 0 (by omega))
      subst hspot
      refine ⟨?_, int_bd (hwf _ ?_)⟩
      · rw [← add_plain]; exact hcell j (by omega)
      · have hjl : j < zs.length := by omega
        have e : zs.getD j 0 = zs[j] := by simp [List.getD, List.getElem?_eq_getElem hjl]
        show zs.getD j 0 ∈ zs
        rw [e]
        exact List.getElem_mem _
theorem wild_reads (os : Os) {H : Type} (enc : TypeId × Value → H) : ∃ places, DataW.whole enc Tryz.prog ((World.laidAll Tryz.prog os Rows.knownRow.laid).forCall (fun _ _ => 0) ⟨#[], #[.slice none 0 0, .slice none 0 0], []⟩).memory Tryz.f7.params.toList Rows.wildSpec.vars false #[Value.slice none 0 0, Value.slice none 0 0].toList 8 = some ([.nil, .nil], [], places) :=
  ⟨[], by kernel_rfl⟩
set_option maxRecDepth 100000 in
theorem wild_lifted (os : Os) (started : os.Started) (H : Type) (enc : TypeId × Value → H) (F : Stop.Interp) :
    ReturnsInHanded {} Tryz.checked os 7 .any ((OpenSpec.ofChange Rows.wildSpec).preRow enc Tryz.prog Tryz.f7 Rows.wildRow.domain false Rows.wildRow.laid) (((OpenSpec.ofChange Rows.wildSpec).at F).post enc Tryz.prog Tryz.f7 false true false false) := by
  obtain ⟨places, hx⟩ := wild_reads os enc
  refine returnsInHanded_of_row (C := Tryz.checked) (s := OpenSpec.ofChange Rows.wildSpec) own started (by kernel_rfl) Tryz.func7
    (witness_laid (World.laidAll Tryz.prog os Rows.knownRow.laid) #[.slice none 0 0, .slice none 0 0] (World.laidAll_os _ _ _) (laid_shaped os _) (by kernel_rfl)
      (OpenSpec.preRow_of_cond 8 hx (by kernel_rfl) (fun k hk => by cases hk) (by kernel_rfl) (laid_met os _))) ?_
  intro W base args ds gs before hval0 hW _ _ _ hL hsh _
  have hval : ∀ (j : Nat) t v, Tryz.f7.params[j]? = some t → args[j]? = some v → Value.okWide Tryz.prog W .any base t v := hval0
  have hW' := hW
  obtain ⟨p, q, hA0, hV, rfl, _, _⟩ := hW
  have hA : DataW.TrodAll enc Tryz.prog W 0 (fun _ => true) true Tryz.f7.params.toList args.toList ds p := hA0
  rw [Tryz.params7] at hA hval
  obtain ⟨v0, v1, d0, d1, p0, p1, rfl, rfl, rfl, h0, h1⟩ := trodAll_two hA
  obtain ⟨rfl, rfl⟩ := trodVars_none hV
  obtain ⟨a0, n0, c0, rfl⟩ := okWide_slice Tryz.underlying45 (hval 0 45 v0 rfl rfl)
  obtain ⟨a1, n1, c1, rfl⟩ := okWide_slice Tryz.underlying45 (hval 1 45 v1 rfl rfl)
  have h0k := h0
  have h1k := h1
  obtain ⟨fuel0, hf0⟩ := h0
  obtain ⟨fuel1, hf1⟩ := h1
  obtain ⟨b0, o0, Z0, ha0, hn0, hi0⟩ := open_arg hf0
  obtain ⟨b1, o1, Z1, ha1, hn1, hi1⟩ := open_arg hf1
  simp only [List.append_nil] at hW'
  have hlt : ∀ x ∈ p0 ++ p1, x.block < W.heap.size := fun x hx => by simpa using hW'.lt x hx
  refine (wild_walk a0 a1 b0 o0 n0 c0 b1 o1 n1 c1 Z0 Z1 W (vars_of hL hsh) ha0 hn0 hi0 ha1 hn1 hi1).mono ?_
  rintro e W' ⟨rfl, hup⟩
  refine ⟨_, rfl, _, _, _, [], p0 ++ p1, [], hW', ?_, ?_, ?_, Below.frame hup _, fun h => by cases h⟩
  · exact trodAll_mk1 (shut_bool Tryz.underlying4 _)
  · exact trodAll_mk2 (Below.trod laidOut (by kernel_rfl) (of_decide_eq_true (by kernel_rfl)) h0k hup (fun x hx => hlt x (by simp [hx]))) (Below.trod laidOut (by kernel_rfl) (of_decide_eq_true (by kernel_rfl)) h1k hup (fun x hx => hlt x (by simp [hx])))
  · rfl
theorem wild_said : Rows.WildSaid :=
  OpenClaim.holds_of_cond 7 Tryz.f7 rfl rfl rfl rfl rfl rfl rfl ⟨rfl, rfl, rfl, rfl, rfl⟩ rfl rfl rfl rfl rfl (by kernel_rfl) Tryz.func7 wild_closed
    (of_decide_eq_true (by kernel_rfl)) (by unfold Func.isWrapper; first | (rw [if_pos (by decide +kernel)]; kernel_rfl) | (rw [if_neg (by decide +kernel)]; exact ⟨rfl, rfl⟩))
    (fun os started H enc _ F => by rw [OpenClaim.pre_eq_preRow]; exact wild_lifted os started H enc F)
theorem wild_plain (f : FuncId) (fn : Func) (hf : Tryz.pinned.checked.prog.funcNamed Rows.wildRow.func = some f) (hfn : Tryz.pinned.checked.prog.funcs[f]? = some fn) :
    true = Tryz.pinned.checked.prog.looks [] ∧ ∀ (j : Nat) t, fn.params[j]? = some t → Tryz.pinned.checked.prog.wantsStandIn t = false := by
  obtain rfl : f = 7 := Option.some.inj ((show Tryz.prog.funcNamed Rows.wildRow.func = some 7 by kernel_rfl).symm.trans hf) |>.symm
  obtain rfl : fn = Tryz.f7 := (Option.some.inj (Tryz.func7.symm.trans hfn)).symm
  refine ⟨by kernel_rfl, fun j t ht => ?_⟩
  rw [Tryz.params7] at ht
  obtain rfl : t = 45 := by simpa using Array.mem_of_getElem? ht
  exact (show Tryz.prog.wantsStandIn 45 = false by kernel_rfl)
theorem wild_card : Rows.WildCardSaid :=
  Claim7.holds_tied_plain_at .later [] _ _ _ _ wild_said (fun _ h => by cases h) (by kernel_rfl) (fun _ h => by cases h) wild_row_tie rfl ⟨rfl, rfl⟩ (by kernel_rfl) rfl wild_plain (by kernel_rfl)
end Go.Proofs.YtaokifbpakbgdaaGreatDoor
