/-
  Package foliokeep: numbers, and a data set as bytes by the document's words.
-/
import Derived.Test.YtaokifbpakbgdaaDoorWr2
import Derived.Test.YtaokifbpakbgdaaDoorSm
import Derived.Laws.IdiomStrings
namespace Go.Proofs.YtaokifbpakbgdaaDoor
open Go.RowKit

theorem pick_any (k n : Int) (w : World) (h1 : -9223372036854775808 ≤ k) (h2 : k ≤ 9223372036854775807) (h3 : 0 < n) (h4 : n ≤ 9223372036854775807) :
    Calls Tryd.prog 18 #[.int .i64 k, .int .i64 n] w fun e w' => e = .returned (.int .i64 (pk k n)) ∧ w' = w := by
  by_cases h : k < 0
  · have e : Hid (pk k n = -(k + 1) % n) := by unfold Hid pk; rw [if_pos h]
    go_enter Tryd.func18, Tryd.ntmps18
    go_wp2
    go_ret
    refine ⟨ret_int ?_, rfl⟩
    rw [e.out, ← Int.neg_tmod, Int.tmod_eq_emod_of_nonneg (by omega)]
  · have e : Hid (pk k n = k % n) := by unfold Hid pk; rw [if_neg h]
    go_enter Tryd.func18, Tryd.ntmps18
    go_wp2
    go_ret
    exact ⟨ret_int e.out.symm, rfl⟩
/-- string([]byte{z}). -/
theorem conv1 (w : World) (z : Int) (h0 : 0 ≤ z) (h1 : z ≤ 255) :
    (convert 55 9 (.slice (some ⟨w.heap.size, 0, none⟩) 1 1)).run Tryd.prog (w.alloc (.cells #[.int .u8 z] 5)) = .ok (.string (bs [UInt8.ofNat z.toNat])) (w.alloc (.cells #[.int .u8 z] 5)) := by
  refine run_convert_bytes_back (P := Tryd.prog) _ 55 9 5 ⟨w.heap.size, 0, none⟩ 1 [UInt8.ofNat z.toNat] Tryd.underlying55 Tryd.underlying5 Tryd.underlying9 (fun j hj => ?_)
  obtain rfl : j = 0 := by simpa using hj
  have e : (UInt8.ofNat z.toNat).toNat = z.toNat := by rw [UInt8.toNat_ofNat']; omega
  have e2 : ((⟨w.heap.size, 0, none⟩ : Addr).add 0) = ⟨w.heap.size, 0, none⟩ := rfl
  rw [e2, World.cell?_alloc_new]
  simp [e]
  omega
theorem lows_snoc : ∀ (k n : Nat), lows (k + 1) n = lows k n ++ [UInt8.ofNat (n / 256 ^ k % 256)]
  | 0, n => by simp [lows]
  | k + 1, n => by
    rw [lows, lows_snoc k (n / 256), lows, List.cons_append, Nat.div_div_eq_div_mul, Nat.pow_succ, Nat.mul_comm 256]
set_option maxRecDepth 20000 in
theorem klow_any (n : Nat) (k : Nat) (w : World) (hn : n ≤ 1099511627776) (hk : k ≤ 4) :
    Calls Tryd.prog 30 #[.int .i64 n, .int .i64 k] w fun e w' => e = .returned (.string (bs (lows k n))) ∧ Below w.heap.size w w' := by
  go_enter Tryd.func30, Tryd.ntmps30
  go_wp2
  go_loopw [5, 0, 6] (fun a b c wr => ∃ (i m : Nat), a = .string (bs (lows i n)) ∧ b = .int .i64 m ∧ c = .int .i64 i ∧ i ≤ k ∧ m ≤ n ∧ Hid (m = n / 256 ^ i) ∧ Hid (Below w.heap.size w wr)) (fun _ _ c _ => k - (intOf c).toNat)
  case atStart => exact ⟨0, n, rfl, rfl, rfl, by omega, by omega, by unfold Hid; simp, Below.refl _ _⟩
  case round =>
    obtain ⟨i, m, rfl, rfl, rfl, hi, hm, hq, hup⟩ := hrel
    by_cases hlt : i < k
    · have cv := conv1 wr ((m : Int) % 256) (by omega) (by omega)
      generalize hc : UInt8.ofNat ((m : Int) % 256).toNat = c at cv
      have hc' := hid hc
      clear hc
      have hone : (bs [c]).size = 1 := rfl
      have hs := (bs_size (lows i n)).trans (lows_length i n)
      have happ := bs_append (lows i n) [c]
      go_wp2
      go_roundw
      case rel =>
        refine ⟨i + 1, m / 256, ?_, by go_num, by go_num, by omega, by omega, ?_, Below.alloc hup.out hup.out.size _⟩
        · rw [lows_snoc, ← hq.out, ← hc'.out, show ((m : Int) % 256).toNat = m % 256 by omega]
        · unfold Hid; rw [hq.out, Nat.div_div_eq_div_mul, Nat.pow_succ]
      case measure => simp [intOf]; omega
    · go_wp2
      go_ret
      have e : i = k := by omega
      subst e
      exact ⟨rfl, hup.out⟩
theorem ksize_any (w : World) (s : By) (o : Bool) (hs : s.length ≤ 274877906944) :
    Calls Tryd.prog 31 #[.string (bs s), .bool o] w fun e w' => e = .returned (.string (bs (sizeB o s))) ∧ Below w.heap.size w w' := by
  have hz := bs_size s
  cases o with
  | true =>
    go_enter Tryd.func31, Tryd.ntmps31
    go_wp2
    go_ret
    exact ⟨rfl, Below.refl _ _⟩
  | false =>
    go_enter Tryd.func31, Tryd.ntmps31
    go_wp2_with fail
    go_at_call 30
    refine (klow_any s.length 4 w (by omega) (by omega)).mono ?_
    rintro e w1 ⟨rfl, u1⟩
    go_wp2
    go_ret
    exact ⟨rfl, u1⟩
end Go.Proofs.YtaokifbpakbgdaaDoor
