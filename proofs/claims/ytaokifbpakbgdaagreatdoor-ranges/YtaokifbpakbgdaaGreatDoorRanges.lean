/-
  Ranges (P6: of three dates, and of three times, the third lies from the first to the second just if it does) returns true for every three integers, at this commit of the program.
  Conditions: none beyond the card's own (the listed variables of the library as their text lays them).
-/
import Derived.Test.YtaokifbpakbgdaaGreatDoorFrame
import Derived.Test.YtaokifbpakbgdaaGreatDoorRangesF
import Derived.Test.YtaokifbpakbgdaaGreatDoorDays
namespace Go.Proofs.YtaokifbpakbgdaaGreatDoor
open Go.ChangeShapes Go.WideShapes Go.ChangeAt Go.RowKit

set_option maxRecDepth 20000 in
theorem kdigits_any (n : Nat) (k : Nat) (w : World) (hn : n < 10000) (hk : k ≤ 4) :
    Calls Tryz.prog 38 #[.int .i64 n, .int .i64 k] w fun e w' => (∃ s : ByteArray, e = .returned (.string s) ∧ Hid (s.data.toList = dgs k n)) ∧ Up w w' := by
  go_enter Tryz.func38, Tryz.ntmps38
  go_wp2
  go_loopw [5, 0, 6] (fun a b c wr => ∃ (s : ByteArray) (i m : Nat), a = .string s ∧ b = .int .i64 m ∧ c = .int .i64 i ∧ i ≤ k ∧ m ≤ n ∧ s.size ≤ i ∧ Hid (m = n / 10 ^ i ∧ s.data.toList = dgs i n) ∧ Up w wr) (fun _ _ c _ => k - (intOf c).toNat)
  case atStart => exact ⟨⟨#[]⟩, 0, n, rfl, rfl, rfl, by omega, by omega, by decide, ⟨by simp, rfl⟩, Up.refl _⟩
  case round =>
    obtain ⟨s, i, m, rfl, rfl, rfl, hi, hm, hs, hq, hup⟩ := hrel
    by_cases hlt : i < k
    · have cv := conv_one wr (48 + (m : Int) % 10) (by omega) (by omega)
      have hone := one_size (48 + (m : Int) % 10)
      go_wp2
      go_roundw
      case rel =>
        refine ⟨oneB (48 + (m : Int) % 10) ++ s, i + 1, m / 10, rfl, by go_num, by go_num, by omega, by omega, by rw [ByteArray.size_append, one_size]; omega, ⟨?_, ?_⟩, Up.alloc hup _⟩
        · rw [hq.out.1, Nat.div_div_eq_div_mul, Nat.pow_succ]
        · rw [data_append, one_data, hq.out.2, dgs, ← hq.out.1]
          have e : (48 + (m : Int) % 10).toNat = 48 + m % 10 := by omega
          rw [e]; rfl
      case measure => simp [intOf]; omega
    · go_wp2
      go_ret
      have e : i = k := by omega
      subst e
      exact ⟨⟨s, rfl, hq.out.2⟩, hup⟩

theorem kd4 (z : Int) (w : World) (h0 : 0 ≤ z) (h1 : z < 10000) :
    Calls Tryz.prog 38 #[.int .i64 z, .int .i64 4] w fun e w' => (∃ s : ByteArray, e = .returned (.string s) ∧ Hid (s.data.toList = dgs 4 z.toNat) ∧ s.size = 4) ∧ Up w w' := by
  obtain ⟨n, rfl⟩ : ∃ n : Nat, z = n := ⟨z.toNat, by omega⟩
  refine (kdigits_any n 4 w (by omega) (by omega)).mono ?_
  rintro e w' ⟨⟨s, rfl, hs⟩, hup⟩
  exact ⟨⟨s, rfl, hs, by rw [← len_list, hs.out, dgs_len]⟩, hup⟩
theorem kd2 (z : Int) (w : World) (h0 : 0 ≤ z) (h1 : z < 10000) :
    Calls Tryz.prog 38 #[.int .i64 z, .int .i64 2] w fun e w' => (∃ s : ByteArray, e = .returned (.string s) ∧ Hid (s.data.toList = dgs 2 z.toNat) ∧ s.size = 2) ∧ Up w w' := by
  obtain ⟨n, rfl⟩ : ∃ n : Nat, z = n := ⟨z.toNat, by omega⟩
  refine (kdigits_any n 2 w (by omega) (by omega)).mono ?_
  rintro e w' ⟨⟨s, rfl, hs⟩, hup⟩
  exact ⟨⟨s, rfl, hs, by rw [← len_list, hs.out, dgs_len]⟩, hup⟩
theorem tdiv_bd (x n : Int) (hn : n = 200 ∨ n = 2400) (h1 : -9223372036854775808 ≤ x) (h2 : x ≤ 9223372036854775807) : -9223372036854775808 ≤ x.tdiv n ∧ x.tdiv n ≤ 9223372036854775807 := by
  by_cases h : 0 ≤ x
  · rw [Int.tdiv_eq_ediv_of_nonneg h]
    rcases hn with rfl | rfl <;> omega
  · have e : x = -(-x) := by omega
    rw [e, Int.neg_tdiv, Int.tdiv_eq_ediv_of_nonneg (by omega)]
    rcases hn with rfl | rfl <;> omega
set_option maxHeartbeats 1000000 in
theorem date_any (x : Int) (w : World) (h1 : -9223372036854775808 ≤ x) (h2 : x ≤ 9223372036854775807) :
    Calls Tryz.prog 20 #[.int .i64 x] w fun e w' => (∃ (s : ByteArray) (y m d : Nat), e = .returned (.tuple #[.string s, .int .i64 (400 * y + 32 * m + d)]) ∧ Hid (s.data.toList = dateOf y m d) ∧ s.size = 8 ∧
      1900 ≤ y ∧ y ≤ 2099 ∧ 1 ≤ m ∧ m ≤ 12 ∧ 1 ≤ d ∧ d ≤ 28) ∧ Up w w' := by
  have p1 := vpk_bd x 200 (by omega)
  have p2 := vpk_bd (x.tdiv 200) 12 (by omega)
  have p3 := vpk_bd (x.tdiv 2400) 28 (by omega)
  have b2 : -9223372036854775808 ≤ x.tdiv 200 ∧ x.tdiv 200 ≤ 9223372036854775807 := tdiv_bd x 200 (Or.inl rfl) h1 h2
  have b3 : -9223372036854775808 ≤ x.tdiv 2400 ∧ x.tdiv 2400 ≤ 9223372036854775807 := tdiv_bd x 2400 (Or.inr rfl) h1 h2
  go_enter Tryz.func20, Tryz.ntmps20
  go_wp2_with fail
  go_at_call 24; refine (vpick_any _ _ _ h1 h2 (by omega) (by omega)).mono ?_; rintro e w1 ⟨rfl, rfl⟩
  generalize vpk x 200 = a at p1
  go_wp2_with fail
  go_at_call 24; refine (vpick_any _ _ _ b2.1 b2.2 (by omega) (by omega)).mono ?_; rintro e w1 ⟨rfl, rfl⟩
  generalize vpk (x.tdiv 200) 12 = b at p2
  go_wp2_with fail
  go_at_call 24; refine (vpick_any _ _ _ b3.1 b3.2 (by omega) (by omega)).mono ?_; rintro e w1 ⟨rfl, rfl⟩
  generalize vpk (x.tdiv 2400) 28 = c at p3
  clear b2 b3
  go_wp2_with fail
  go_at_call 38; refine (kd4 _ _ (by omega) (by omega)).mono ?_; rintro e w1 ⟨⟨s1, rfl, e1, l1⟩, u1⟩
  go_wp2_with fail
  go_at_call 38; refine (kd2 _ _ (by omega) (by omega)).mono ?_; rintro e w2 ⟨⟨s2, rfl, e2, l2⟩, u2⟩
  go_wp2_with fail
  go_at_call 38; refine (kd2 _ _ (by omega) (by omega)).mono ?_; rintro e w3 ⟨⟨s3, rfl, e3, l3⟩, u3⟩
  have l12 : (s1 ++ s2).size = 6 := by rw [ByteArray.size_append]; omega
  go_wp2_with fail
  go_ret2
  refine ⟨⟨s1 ++ s2 ++ s3, (a + 1900).toNat, (b + 1).toNat, (c + 1).toNat, ?_, ?_, by rw [ByteArray.size_append]; omega, by omega, by omega, by omega, by omega, by omega, by omega⟩, (u1.trans u2).trans u3⟩
  · have : 400 * (a + 1900) + 32 * (b + 1) + (c + 1) = 400 * (((a + 1900).toNat : Nat) : Int) + 32 * (((b + 1).toNat : Nat) : Int) + (((c + 1).toNat : Nat) : Int) := by omega
    rw [← this]; rfl
  · unfold Hid
    rw [data_append, data_append, e1.out, e2.out, e3.out]; rfl

set_option maxHeartbeats 1000000 in
theorem time_any (x : Int) (w : World) (h1 : -9223372036854775808 ≤ x) (h2 : x ≤ 9223372036854775807) :
    Calls Tryz.prog 22 #[.int .i64 x] w fun e w' => (∃ (s : ByteArray) (n : Nat), e = .returned (.tuple #[.string s, .int .i64 n]) ∧ Hid (s.data.toList = timeOf n) ∧ s.size = 6 ∧ n < 86400) ∧ Up w w' := by
  have p1 := vpk_bd x 86400 (by omega)
  go_enter Tryz.func22, Tryz.ntmps22
  go_wp2_with fail
  go_at_call 24; refine (vpick_any _ _ _ h1 h2 (by omega) (by omega)).mono ?_; rintro e w1 ⟨rfl, rfl⟩
  generalize vpk x 86400 = a at p1
  obtain ⟨n, rfl⟩ : ∃ n : Nat, a = n := ⟨a.toNat, by omega⟩
  go_wp2_with fail
  go_at_call 38; refine (kd2 _ _ (by omega) (by omega)).mono ?_; rintro e w1 ⟨⟨s1, rfl, e1, l1⟩, u1⟩
  go_wp2_with fail
  go_at_call 38; refine (kd2 _ _ (by omega) (by omega)).mono ?_; rintro e w2 ⟨⟨s2, rfl, e2, l2⟩, u2⟩
  go_wp2_with fail
  go_at_call 38; refine (kd2 _ _ (by omega) (by omega)).mono ?_; rintro e w3 ⟨⟨s3, rfl, e3, l3⟩, u3⟩
  have l12 : (s1 ++ s2).size = 4 := by rw [ByteArray.size_append]; omega
  go_wp2_with fail
  go_ret2
  refine ⟨⟨s1 ++ s2 ++ s3, n, rfl, ?_, by rw [ByteArray.size_append]; omega, by omega⟩, (u1.trans u2).trans u3⟩
  unfold Hid
  rw [data_append, data_append, e1.out, e2.out, e3.out]; rfl
set_option maxHeartbeats 2000000 in
theorem kwithin_any (k a b c : ByteArray) (af bf : Bool) (w : World) (hv : Vars w) (ha : a.size ≤ 8) (hb : b.size ≤ 8) (hc : c.size ≤ 8)
    (h : Hid (Between k.data.toList a.data.toList b.data.toList c.data.toList af bf)) :
    Calls Tryz.prog 21 #[.string k, .string a, .string b, .string c, .bool af, .bool bf] w fun e w' => e = .returned (.bool true) ∧ Up w w' := by
  have z1 : (a ++ ⟨#[45]⟩).size = a.size + 1 := by rw [ByteArray.size_append]; rfl
  have z2 : (a ++ ⟨#[45]⟩ ++ b).size = a.size + 1 + b.size := by rw [ByteArray.size_append, z1]
  have z3 : ((⟨#[45]⟩ : ByteArray) ++ b).size = 1 + b.size := by rw [ByteArray.size_append]; rfl
  have m1 : ∀ w, Vars w → Calls Tryz.prog 12 #[.string k, .string (a ++ ⟨#[45]⟩ ++ b), .string c] w fun e w' => e = .returned (.tuple #[.bool (af && bf), .int .i64 0]) ∧ Up w w' := fun w hv => by
    have := Match_any k (a ++ ⟨#[45]⟩ ++ b) c w (by omega) (by omega) hv
    rwa [data_append, data_append, show (⟨#[45]⟩ : ByteArray).data.toList = [45] from rfl, h.out.1.1, h.out.1.2] at this
  have m2 : ∀ w, Vars w → Calls Tryz.prog 12 #[.string k, .string (a ++ ⟨#[45]⟩), .string c] w fun e w' => e = .returned (.tuple #[.bool af, .int .i64 0]) ∧ Up w w' := fun w hv => by
    have := Match_any k (a ++ ⟨#[45]⟩) c w (by omega) (by omega) hv
    rwa [data_append, show (⟨#[45]⟩ : ByteArray).data.toList = [45] from rfl, h.out.2.1.1, h.out.2.1.2] at this
  have m3 : ∀ w, Vars w → Calls Tryz.prog 12 #[.string k, .string (⟨#[45]⟩ ++ b), .string c] w fun e w' => e = .returned (.tuple #[.bool bf, .int .i64 0]) ∧ Up w w' := fun w hv => by
    have := Match_any k (⟨#[45]⟩ ++ b) c w (by omega) (by omega) hv
    rwa [data_append, show (⟨#[45]⟩ : ByteArray).data.toList = [45] from rfl, h.out.2.2.1.1, h.out.2.2.1.2] at this
  have m4 : ∀ w, Vars w → Calls Tryz.prog 12 #[.string k, .string a, .string a] w fun e w' => e = .returned (.tuple #[.bool true, .int .i64 0]) ∧ Up w w' := fun w hv => by
    have := Match_any k a a w (by omega) (by omega) hv
    rwa [h.out.2.2.2.1, h.out.2.2.2.2] at this
  clear h
  cases af <;> cases bf <;>
  (go_enter Tryz.func21, Tryz.ntmps21
   go_wp2_with fail
   go_at_call 12; refine (m1 _ hv).mono ?_; rintro e w1 ⟨rfl, u1⟩
   go_wp2_with fail
   go_at_call 12; refine (m2 _ (hv.up u1)).mono ?_; rintro e w2 ⟨rfl, u2⟩
   go_wp2_with fail
   go_at_call 12; refine (m3 _ ((hv.up u1).up u2)).mono ?_; rintro e w3 ⟨rfl, u3⟩
   go_wp2_with fail
   go_at_call 12; refine (m4 _ (((hv.up u1).up u2).up u3)).mono ?_; rintro e w4 ⟨rfl, u4⟩
   go_wp2_with fail
   go_ret
   exact ⟨rfl, ((u1.trans u2).trans u3).trans u4⟩)

theorem lex_day (y m d y' m' d' : Nat) (h1 : 1 ≤ m) (h2 : m ≤ 12) (h3 : 1 ≤ d) (h4 : d ≤ 28) (k1 : 1 ≤ m') (k2 : m' ≤ 12) (k3 : 1 ≤ d') (k4 : d' ≤ 28) :
    (10000 * y + 100 * m + d : Int) ≤ 10000 * y' + 100 * m' + d' ↔ (400 * y + 32 * m + d : Int) ≤ 400 * y' + 32 * m' + d' := by
  rcases Nat.lt_trichotomy y y' with h | h | h <;> rcases Nat.lt_trichotomy m m' with k | k | k <;> omega
theorem lex_sec (h m s h' m' s' : Nat) (h1 : m < 60) (h2 : s < 60) (k1 : m' < 60) (k2 : s' < 60) :
    (10000 * h + 100 * m + s : Int) ≤ 10000 * h' + 100 * m' + s' ↔ 3600 * h + 60 * m + s ≤ 3600 * h' + 60 * m' + s' := by
  rcases Nat.lt_trichotomy h h' with a | a | a <;> rcases Nat.lt_trichotomy m m' with b | b | b <;> omega
theorem lex_time (n n' : Nat) :
    (10000 * ((n / 3600 : Nat) : Int) + 100 * ((n / 60 % 60 : Nat) : Int) + ((n % 60 : Nat) : Int) ≤ 10000 * ((n' / 3600 : Nat) : Int) + 100 * ((n' / 60 % 60 : Nat) : Int) + ((n' % 60 : Nat) : Int)) ↔ n ≤ n' := by
  rw [lex_sec _ _ _ _ _ _ (Nat.mod_lt _ (by omega)) (Nat.mod_lt _ (by omega)) (Nat.mod_lt _ (by omega)) (Nat.mod_lt _ (by omega))]
  have e : 3600 * (n / 3600) + 60 * (n / 60 % 60) + n % 60 = n := by omega
  have e' : 3600 * (n' / 3600) + 60 * (n' / 60 % 60) + n' % 60 = n' := by omega
  rw [e, e']
theorem days_between (s1 s2 s3 : ByteArray) (y1 m1 d1 y2 m2 d2 y3 m3 d3 : Nat) (e1 : Hid (s1.data.toList = dateOf y1 m1 d1)) (e2 : Hid (s2.data.toList = dateOf y2 m2 d2)) (e3 : Hid (s3.data.toList = dateOf y3 m3 d3))
    (a1 : y1 ≤ 2099) (b1 : 1 ≤ m1) (c1 : m1 ≤ 12) (f1 : 1 ≤ d1) (g1 : d1 ≤ 28) (a2 : y2 ≤ 2099) (b2 : 1 ≤ m2) (c2 : m2 ≤ 12) (f2 : 1 ≤ d2) (g2 : d2 ≤ 28) (a3 : y3 ≤ 2099) (b3 : 1 ≤ m3) (c3 : m3 ≤ 12) (f3 : 1 ≤ d3) (g3 : d3 ≤ 28) :
    Hid (Between (⟨#[68, 65]⟩ : ByteArray).data.toList s1.data.toList s2.data.toList s3.data.toList (decide ((400 * y1 + 32 * m1 + d1 : Int) ≤ 400 * y3 + 32 * m3 + d3)) (decide ((400 * y3 + 32 * m3 + d3 : Int) ≤ 400 * y2 + 32 * m2 + d2))) := by
  have ne : ∀ y m d, dateOf y m d ≠ [] := fun y m d e => by have := date_len y m d; rw [e] at this; cases this
  have h := between_date (dateOf y1 m1 d1) (dateOf y2 m2 d2) (dateOf y3 m3 d3) (date_chk _ _ _ (by omega) b1 c1 f1 g1) (date_chk _ _ _ (by omega) b2 c2 f2 g2) (date_chk _ _ _ (by omega) b3 c3 f3 g3) (date_dig _ _ _) (ne _ _ _) (ne _ _ _) (ne _ _ _)
  rw [leB_num _ _ (by rw [date_len, date_len]) (date_dig _ _ _) (date_dig _ _ _), leB_num _ _ (by rw [date_len, date_len]) (date_dig _ _ _) (date_dig _ _ _), date_num _ _ _ (by omega) (by omega) (by omega), date_num _ _ _ (by omega) (by omega) (by omega), date_num _ _ _ (by omega) (by omega) (by omega)] at h
  rw [e1.out, e2.out, e3.out]
  have q1 : decide ((10000 * y1 + 100 * m1 + d1 : Int) ≤ 10000 * y3 + 100 * m3 + d3) = decide ((400 * y1 + 32 * m1 + d1 : Int) ≤ 400 * y3 + 32 * m3 + d3) := decide_eq_decide.2 (lex_day _ _ _ _ _ _ (by omega) (by omega) (by omega) (by omega) (by omega) (by omega) (by omega) (by omega))
  have q2 : decide ((10000 * y3 + 100 * m3 + d3 : Int) ≤ 10000 * y2 + 100 * m2 + d2) = decide ((400 * y3 + 32 * m3 + d3 : Int) ≤ 400 * y2 + 32 * m2 + d2) := decide_eq_decide.2 (lex_day _ _ _ _ _ _ (by omega) (by omega) (by omega) (by omega) (by omega) (by omega) (by omega) (by omega))
  rw [q1, q2] at h
  exact h
theorem times_between (s1 s2 s3 : ByteArray) (n1 n2 n3 : Nat) (e1 : Hid (s1.data.toList = timeOf n1)) (e2 : Hid (s2.data.toList = timeOf n2)) (e3 : Hid (s3.data.toList = timeOf n3)) (h1 : n1 < 86400) (h2 : n2 < 86400) (h3 : n3 < 86400) :
    Hid (Between (⟨#[84, 77]⟩ : ByteArray).data.toList s1.data.toList s2.data.toList s3.data.toList (decide (n1 ≤ n3)) (decide (n3 ≤ n2))) := by
  have h := between_time (timeOf n1) (timeOf n2) (timeOf n3) (tm_chk _ h1) (tm_chk _ h2) (tm_chk _ h3) (tm_digs _) (tm_len _) (tm_len _) (tm_len _)
  rw [leB_num _ _ (by rw [tm_len, tm_len]) (tm_digs _) (tm_digs _), leB_num _ _ (by rw [tm_len, tm_len]) (tm_digs _) (tm_digs _), tm_num _ h1, tm_num _ h2, tm_num _ h3] at h
  rw [e1.out, e2.out, e3.out]
  have q1 : decide (10000 * ((n1 / 3600 : Nat) : Int) + 100 * ((n1 / 60 % 60 : Nat) : Int) + ((n1 % 60 : Nat) : Int) ≤ 10000 * ((n3 / 3600 : Nat) : Int) + 100 * ((n3 / 60 % 60 : Nat) : Int) + ((n3 % 60 : Nat) : Int)) = decide (n1 ≤ n3) := decide_eq_decide.2 (lex_time _ _)
  have q2 : decide (10000 * ((n3 / 3600 : Nat) : Int) + 100 * ((n3 / 60 % 60 : Nat) : Int) + ((n3 % 60 : Nat) : Int) ≤ 10000 * ((n2 / 3600 : Nat) : Int) + 100 * ((n2 / 60 % 60 : Nat) : Int) + ((n2 % 60 : Nat) : Int)) = decide (n3 ≤ n2) := decide_eq_decide.2 (lex_time _ _)
  rw [q1, q2] at h
  exact h
set_option maxHeartbeats 4000000 in
theorem ranges_walk (x y z : Int) (w : World) (hx : -9223372036854775808 ≤ x ∧ x ≤ 9223372036854775807) (hy : -9223372036854775808 ≤ y ∧ y ≤ 9223372036854775807) (hz : -9223372036854775808 ≤ z ∧ z ≤ 9223372036854775807) (hv : Vars w) :
    Calls Tryz.prog 6 #[.int .i64 x, .int .i64 y, .int .i64 z] w fun e w' => e = .returned (.bool true) ∧ Up w w' := by
  go_enter Tryz.func6, Tryz.ntmps6
  go_wp2_with fail
  go_at_call 20; refine (date_any _ _ hx.1 hx.2).mono ?_; rintro e w1 ⟨⟨s1, y1, m1, d1, rfl, e1, z1, _, a1, b1, c1, f1, g1⟩, u1⟩
  go_wp2_with fail
  go_at_call 20; refine (date_any _ _ hy.1 hy.2).mono ?_; rintro e w2 ⟨⟨s2, y2, m2, d2, rfl, e2, z2, _, a2, b2, c2, f2, g2⟩, u2⟩
  go_wp2_with fail
  go_at_call 20; refine (date_any _ _ hz.1 hz.2).mono ?_; rintro e w3 ⟨⟨s3, y3, m3, d3, rfl, e3, z3, _, a3, b3, c3, f3, g3⟩, u3⟩
  have B := days_between s1 s2 s3 y1 m1 d1 y2 m2 d2 y3 m3 d3 e1 e2 e3 a1 b1 c1 f1 g1 a2 b2 c2 f2 g2 a3 b3 c3 f3 g3
  have v3 := hid (((hv.up u1).up u2).up u3)
  have U3 := hid ((u1.trans u2).trans u3)
  clear u1 u2 u3 hv
  go_wp2_with fail
  go_at_call 21; refine (kwithin_any _ _ _ _ _ _ _ v3.out (by omega) (by omega) (by omega) B).mono ?_; rintro e w4 ⟨rfl, u4⟩
  have v4 := hid (v3.out.up u4)
  have U4 := hid (U3.out.trans u4)
  clear u4 v3 U3 B
  go_wp2_with fail
  go_at_call 22; refine (time_any _ _ hx.1 hx.2).mono ?_; rintro e w5 ⟨⟨t1, n1, rfl, h1, q1, r1⟩, u5⟩
  go_wp2_with fail
  go_at_call 22; refine (time_any _ _ hy.1 hy.2).mono ?_; rintro e w6 ⟨⟨t2, n2, rfl, h2, q2, r2⟩, u6⟩
  go_wp2_with fail
  go_at_call 22; refine (time_any _ _ hz.1 hz.2).mono ?_; rintro e w7 ⟨⟨t3, n3, rfl, h3, q3, r3⟩, u7⟩
  have B := times_between t1 t2 t3 n1 n2 n3 h1 h2 h3 r1 r2 r3
  have v7 := hid (((v4.out.up u5).up u6).up u7)
  have U7 := hid (((U4.out.trans u5).trans u6).trans u7)
  clear u5 u6 u7 v4 U4
  go_wp2_with fail
  go_at_call 21; refine (kwithin_any _ _ _ _ _ _ _ v7.out (by omega) (by omega) (by omega) B).mono ?_; rintro e w8 ⟨rfl, u8⟩
  have U8 := hid (U7.out.trans u8)
  clear u8 v7 U7 B
  go_wp2_with fail
  go_ret
  exact ⟨rfl, U8.out⟩

theorem ranges_reads (os : Os) {H : Type} (enc : TypeId × Value → H) : ∃ places, DataW.whole enc Tryz.prog ((World.laidAll Tryz.prog os Rows.knownRow.laid).forCall (fun _ _ => 0) ⟨#[], #[.int .i64 0, .int .i64 0, .int .i64 0], []⟩).memory Tryz.f6.params.toList Rows.rangesSpec.vars false #[Value.int .i64 0, Value.int .i64 0, Value.int .i64 0].toList 8 = some ([.lit (.int .i64 0), .lit (.int .i64 0), .lit (.int .i64 0)], [], places) :=
  ⟨[], by kernel_rfl⟩
set_option maxRecDepth 100000 in
theorem ranges_lifted (os : Os) (started : os.Started) (H : Type) (enc : TypeId × Value → H) (F : Stop.Interp) :
    ReturnsInHanded {} Tryz.checked os 6 .any ((OpenSpec.ofChange Rows.rangesSpec).preRow enc Tryz.prog Tryz.f6 Rows.rangesRow.domain false Rows.rangesRow.laid) (((OpenSpec.ofChange Rows.rangesSpec).at F).post enc Tryz.prog Tryz.f6 false true false false) := by
  obtain ⟨places, hx⟩ := ranges_reads os enc
  refine returnsInHanded_of_row (C := Tryz.checked) (s := OpenSpec.ofChange Rows.rangesSpec) own started (by kernel_rfl) Tryz.func6
    (witness_laid (World.laidAll Tryz.prog os Rows.knownRow.laid) #[.int .i64 0, .int .i64 0, .int .i64 0] (World.laidAll_os _ _ _) (laid_shaped os _) (by kernel_rfl)
      (OpenSpec.preRow_of_cond 8 hx (by kernel_rfl) (fun k hk => by cases hk) (by kernel_rfl) (laid_met os _))) ?_
  intro W base args ds gs before hval0 hW _ _ _ hL hsh _
  have hval : ∀ (j : Nat) t v, Tryz.f6.params[j]? = some t → args[j]? = some v → Value.okWide Tryz.prog W .any base t v := hval0
  have hW' := hW
  obtain ⟨p, q, hA0, hV, rfl, _, _⟩ := hW
  have hA : DataW.TrodAll enc Tryz.prog W 0 (fun _ => true) true Tryz.f6.params.toList args.toList ds p := hA0
  rw [Tryz.params6] at hA hval
  obtain ⟨v0, vs0, d0, ds0, p0, q0, hargs, rfl, rfl, h0, r0⟩ := trodAll_cons hA
  obtain ⟨v1, vs1, d1, ds1, p1, q1, rfl, rfl, rfl, h1, r1⟩ := trodAll_cons r0
  obtain ⟨v2, vs2, d2, ds2, p2, q2, rfl, rfl, rfl, h2, r2⟩ := trodAll_cons r1
  obtain ⟨rfl, rfl, rfl⟩ := trodAll_nil r2
  obtain rfl : args = #[v0, v1, v2] := by cases args; simp_all
  obtain ⟨rfl, rfl⟩ := trodVars_none hV
  obtain ⟨x, rfl, rfl, rfl, wx⟩ := open_int Tryz.underlying3 (hval 0 3 v0 rfl rfl) h0
  obtain ⟨y, rfl, rfl, rfl, wy⟩ := open_int Tryz.underlying3 (hval 1 3 v1 rfl rfl) h1
  obtain ⟨z, rfl, rfl, rfl, wz⟩ := open_int Tryz.underlying3 (hval 2 3 v2 rfl rfl) h2
  simp only [List.append_nil] at hW'
  refine (ranges_walk x y z W (int_bd wx) (int_bd wy) (int_bd wz) (vars_of hL hsh)).mono ?_
  rintro e W' ⟨rfl, hup⟩
  refine ⟨_, rfl, _, _, _, [], [], [], hW', ?_, ?_, ?_, Below.frame hup _, fun h => by cases h⟩
  · exact trodAll_mk1 (shut_bool Tryz.underlying4 _)
  · exact trodAll_mk3 (shut_int Tryz.underlying3 wx) (shut_int Tryz.underlying3 wy) (shut_int Tryz.underlying3 wz)
  · rfl
theorem ranges_said : Rows.RangesSaid :=
  OpenClaim.holds_of_cond 6 Tryz.f6 rfl rfl rfl rfl rfl rfl rfl ⟨rfl, rfl, rfl, rfl, rfl⟩ rfl rfl rfl rfl rfl (by kernel_rfl) Tryz.func6 ranges_closed
    (of_decide_eq_true (by kernel_rfl)) (by unfold Func.isWrapper; first | (rw [if_pos (by decide +kernel)]; kernel_rfl) | (rw [if_neg (by decide +kernel)]; exact ⟨rfl, rfl⟩))
    (fun os started H enc _ F => by rw [OpenClaim.pre_eq_preRow]; exact ranges_lifted os started H enc F)
theorem ranges_plain (f : FuncId) (fn : Func) (hf : Tryz.pinned.checked.prog.funcNamed Rows.rangesRow.func = some f) (hfn : Tryz.pinned.checked.prog.funcs[f]? = some fn) :
    true = Tryz.pinned.checked.prog.looks [] ∧ ∀ (j : Nat) t, fn.params[j]? = some t → Tryz.pinned.checked.prog.wantsStandIn t = false := by
  obtain rfl : f = 6 := Option.some.inj ((show Tryz.prog.funcNamed Rows.rangesRow.func = some 6 by kernel_rfl).symm.trans hf) |>.symm
  obtain rfl : fn = Tryz.f6 := (Option.some.inj (Tryz.func6.symm.trans hfn)).symm
  refine ⟨by kernel_rfl, fun j t ht => ?_⟩
  rw [Tryz.params6] at ht
  obtain rfl : t = 3 := by simpa using Array.mem_of_getElem? ht
  exact (show Tryz.prog.wantsStandIn 3 = false by kernel_rfl)
theorem ranges_card : Rows.RangesCardSaid :=
  Claim7.holds_tied_plain_at .later [] _ _ _ _ ranges_said (fun _ h => by cases h) (by kernel_rfl) (fun _ h => by cases h) ranges_row_tie rfl ⟨rfl, rfl⟩ (by kernel_rfl) rfl ranges_plain (by kernel_rfl)
end Go.Proofs.YtaokifbpakbgdaaGreatDoor
