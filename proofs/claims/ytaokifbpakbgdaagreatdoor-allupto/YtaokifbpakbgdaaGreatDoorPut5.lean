/-
  Several texts in one; what each one has stands at its head.
-/
import Derived.Test.YtaokifbpakbgdaaGreatDoorRows
import Derived.Test.YtaokifbpakbgdaaGreatDoorPut4
import Derived.Test.YtaokifbpakbgdaaGreatDoorShelf
import Derived.WalkKit
import Derived.Recover
import Derived.WalkLawsBesides
import Derived.Laws.BitsAllLaws
/- Package dataset's reader, from its leaves up: what it takes off the bytes; where something is wrong it panics. -/
namespace Go.Proofs.YtaokifbpakbgdaaGreatDoor
open Go.RowKit

theorem hid {p : Prop} (h : p) : Hid p := h
/-- What is raised. -/
abbrev pn : List PanicEntry := [{ v := .iface 22 (.int .i64 1), recovered := false }]
/-- A reader with these bytes left. -/
def Rdr (w : World) (b : Nat) (s : By) : Prop := w.heap[b]? = some (.cells #[.string (bs s)] 208 (0, 0))
abbrev ptr (b : Nat) : Value := .pointer (some ⟨b, 0, none⟩)
theorem Rdr.cell {w : World} {b : Nat} {s : By} (h : Rdr w b s) : w.cell? ⟨b, 0, none⟩ = some (.string (bs s)) := cell_of_one h
theorem Rdr.free {w : World} {b : Nat} {s : By} (h : Rdr w b s) : w.frozen? ⟨b, 0, none⟩ = false := free_of_one h
theorem Rdr.set {w : World} {b : Nat} {s : By} (h : Rdr w b s) (r : By) : Rdr (w.setCell ⟨b, 0, none⟩ (.string (bs r))) b r := one_setCell h
theorem Rdr.lt {w : World} {b : Nat} {s : By} (h : Rdr w b s) : b < w.heap.size := lt_of_block h
theorem Rdr.below {w w' : World} {b : Nat} {s : By} (h : Rdr w b s) (k : Below w.heap.size w w') : Rdr w' b s := by rw [Rdr, k.block b h.lt]; exact h
theorem bs_take (s : By) (k : Nat) : (bs s).extract 0 k = bs (s.take k) := by
  apply ByteArray.ext
  rw [ByteArray.data_extract]
  apply Array.ext'
  simp [bs]
theorem bs_drop (s : By) (k : Nat) : (bs s).extract k s.length = bs (s.drop k) := by
  apply ByteArray.ext
  rw [ByteArray.data_extract]
  apply Array.ext'
  simp only [bs, Array.toList_extract, List.extract_eq_take_drop]
  rw [List.take_of_length_le (by simp)]

theorem i64_or_nat (a b : Nat) (ha : a < 9223372036854775808) (hb : b < 9223372036854775808) : bits .or .i64 (a : Int) (b : Int) = ((a ||| b : Nat) : Int) := by
  have hx : a ||| b < 2 ^ 63 := Nat.or_lt_two_pow (by omega) (by omega)
  have e : ∀ c : Nat, c < 9223372036854775808 → (BitVec.ofInt 64 (c : Int)).toNat = c := fun c hc => by
    rw [BitVec.ofInt_natCast, BitVec.toNat_ofNat]; exact Nat.mod_eq_of_lt (by omega)
  show IntKind.i64.wrap ((BitVec.ofInt 64 (a : Int) ||| BitVec.ofInt 64 (b : Int)).toNat : Int) = _
  rw [BitVec.toNat_or, e a ha, e b hb, IntKind.wrap_i64]
  omega
theorem w64 (n : Int) (h : -9223372036854775808 ≤ n ∧ n ≤ 9223372036854775807) : wrap64 n = n := by unfold wrap64; omega
theorem or_shift (n c j : Nat) (hn : n < 256 ^ j) (hc : c < 256) (hj : j ≤ 3) : bits .or .i64 (n : Int) (wrap64 (wrap64 (c : Int) * 2 ^ (8 * j))) = ((n + c * 256 ^ j : Nat) : Int) := by
  have e256 : (256 : Nat) ^ j = 2 ^ (8 * j) := by rw [Nat.pow_mul]
  have hp : (256 : Nat) ^ j ≤ 256 ^ 3 := Nat.pow_le_pow_right (by decide) hj
  have hp' : (256 : Nat) ^ 3 = 16777216 := rfl
  have hm : c * 256 ^ j ≤ 255 * 16777216 := Nat.mul_le_mul (by omega) (by omega)
  have h1 : (c : Int) * 2 ^ (8 * j) = ((c * 256 ^ j : Nat) : Int) := by rw [e256]; simp
  rw [w64 (c : Int) (by omega), h1, w64 _ (by omega), i64_or_nat _ _ (by omega) (by omega), Nat.or_comm, Nat.mul_comm, e256, ← Nat.two_pow_add_eq_or_of_lt (by omega), Nat.add_comm]
theorem le_snoc : ∀ (l : By) (c : UInt8), le (l ++ [c]) = le l + c.toNat * 256 ^ l.length
  | [], c => by simp [le]
  | d :: l, c => by
    rw [List.cons_append, le, le, le_snoc l c, List.length_cons, Nat.pow_succ]
    have : c.toNat * (256 ^ l.length * 256) = 256 * (c.toNat * 256 ^ l.length) := by rw [← Nat.mul_assoc, Nat.mul_comm]
    omega
theorem ret_str {a b : ByteArray} (h : a = b) : Ending.returned (.string a) = Ending.returned (.string b) := by rw [h]
theorem ret_int {a b : Int} (h : a = b) : Ending.returned (.int .i64 a) = Ending.returned (.int .i64 b) := by rw [h]
theorem UpB.of_bytes {b : Nat} {w w' : World} (h : UpB b w w') (e : TypeId) (t : ByteArray) : UpB b w (Lib.bytesWorld w' e t) :=
  h.trans (UpB.of_below ⟨rfl, rfl, rfl, by rw [Lib.bytesWorld_size]; omega, fun j hj => Lib.bytesWorld_at_old w' e t j hj⟩)
theorem need_yes (w : World) : Calls Tryz.prog 267 #[.bool true] w fun e w' => e = .returned (.tuple #[]) ∧ w' = w := by
  go_enter Tryz.func267, Tryz.ntmps267
  go_wp2
  go_end0
  exact ⟨rfl, rfl⟩
theorem need_no (w : World) : Calls Tryz.prog 267 #[.bool false] w fun e w' => e = .panicked pn ∧ w' = w := by
  go_enter Tryz.func267, Tryz.ntmps267
  go_wp2
  exact ⟨rfl, rfl, rfl⟩
theorem take_yes (w : World) (b : Nat) (s : By) (k : Nat) (h : Rdr w b s) (hk : k ≤ s.length) (_hs : s.length ≤ 16384) :
    Calls Tryz.prog 269 #[ptr b, .int .i64 k] w fun e w' => e = .returned (.string (bs (s.take k))) ∧ w' = w.setCell ⟨b, 0, none⟩ (.string (bs (s.drop k))) := by
  have hc := h.cell
  have hf := h.free
  have hz : (bs s).size = s.length := rfl
  go_enter Tryz.func269, Tryz.ntmps269
  go_wp2_with fail
  go_at_call 267
  refine (need_yes w).mono ?_
  rintro e w1 ⟨rfl, rfl⟩
  go_wp2
  go_ret
  exact ⟨ret_str (bs_take s k), by rw [bs_drop]⟩
theorem take_no (w : World) (b : Nat) (s : By) (k : Nat) (h : Rdr w b s) (hk : s.length < k) (_hs : s.length ≤ 16384) (_hk2 : k < 4294967296) :
    Calls Tryz.prog 269 #[ptr b, .int .i64 k] w fun e w' => e = .panicked pn ∧ w' = w := by
  have hc := h.cell
  have hf := h.free
  have hz : (bs s).size = s.length := rfl
  have d : decide (k ≤ s.length) = false := by simp; omega
  go_enter Tryz.func269, Tryz.ntmps269
  go_wp2_with fail
  go_at_call 267
  refine (need_no w).mono ?_
  rintro e w1 ⟨rfl, rfl⟩
  go_wp2
  exact ⟨rfl, rfl, rfl⟩
theorem number_no (w : World) (b : Nat) (s : By) (k : Nat) (h : Rdr w b s) (hk : s.length < k) (hs : s.length ≤ 16384) (hk2 : k ≤ 4) :
    Calls Tryz.prog 273 #[ptr b, .int .i64 k] w fun e w' => e = .panicked pn ∧ w' = w := by
  go_enter Tryz.func273, Tryz.ntmps273
  go_wp2_with fail
  go_at_call 269
  refine (take_no w b s k h hk hs (by omega)).mono ?_
  rintro e w1 ⟨rfl, rfl⟩
  go_wp2
  exact ⟨rfl, rfl, rfl⟩
theorem number_yes (w : World) (b : Nat) (s : By) (k : Nat) (h : Rdr w b s) (hk : k ≤ s.length) (hs : s.length ≤ 16384) (hk2 : k ≤ 4) :
    Calls Tryz.prog 273 #[ptr b, .int .i64 k] w fun e w' => e = .returned (.int .i64 (le (s.take k))) ∧ Rdr w' b (s.drop k) ∧ UpB b w w' := by
  go_enter Tryz.func273, Tryz.ntmps273
  go_wp2_with fail
  go_at_call 269
  refine (take_yes w b s k h hk hs).mono ?_
  rintro e w1 ⟨rfl, rfl⟩
  have hr := h.set (s.drop k)
  have hup := (UpB.refl b w).setCell (p := ⟨b, 0, none⟩) (Or.inl rfl) (.string (bs (s.drop k)))
  generalize w.setCell ⟨b, 0, none⟩ (.string (bs (s.drop k))) = w1 at hr hup ⊢
  have hcv := Lib.run_convert_string_bytes (P := Tryz.prog) w1 9 49 5 (bs (s.take k)) Tryz.underlying9 Tryz.underlying49 Tryz.underlying5
  have hsz : (bs (s.take k)).size = k := by rw [bs_size, List.length_take]; omega
  have hcell : ∀ j, j < k → (Lib.bytesWorld w1 5 (bs (s.take k))).cell? ⟨w1.heap.size, j, none⟩ = some (.int .u8 ((s.take k).getD j 0).toNat) := fun j hj => Lib.bytesWorld_cell w1 _ _ j (by omega)
  rw [hsz] at hcv
  go_wp2_with fail
  go_loop [5, 13] (fun n i => ∃ j : Nat, j ≤ k ∧ i = .int .i64 j ∧ n = .int .i64 (le ((s.take k).take j))) (fun _ i => k - (intOf i).toNat)
  case atStart => exact ⟨0, Nat.zero_le _, rfl, rfl⟩
  case round =>
    obtain ⟨j, hj, rfl, rfl⟩ := hrel
    by_cases hjk : j < k
    · have hc := hcell j hjk
      go_wp2
      go_round
      case rel =>
        have hlen : (s.take k).length = k := by rw [List.length_take]; omega
        have hl := le_lt ((s.take k).take j)
        rw [List.length_take, hlen, Nat.min_eq_left (by omega)] at hl
        refine ⟨j + 1, by omega, by go_num, ?_⟩
        have hl2 : ((s.take k).take j).length = j := by rw [List.length_take, hlen]; omega
        rw [or_shift _ _ j hl (by exact s[j].toNat_lt) (by omega), List.take_succ_eq_append_getElem (by omega), le_snoc, hl2]
        simp
      case measure => simp [intOf]; omega
    · go_wp2
      go_ret
      have : j = k := by omega
      subst this
      rw [List.take_take, Nat.min_self]
      exact ⟨rfl, by rw [Rdr, Lib.bytesWorld_at_old _ _ _ _ hr.lt]; exact hr, UpB.of_bytes hup _ _⟩

/-- How a method of the reader ends: what it read, and the bytes that are left; or the panic. -/
def Ends {α : Type} (b : Nat) (w : World) (o : Option (α × By)) (P : World → Value → α → Prop) (e : Ending) (w' : World) : Prop :=
  UpB b w w' ∧ match o with
    | none => e = .panicked pn
    | some (x, r) => ∃ v, e = .returned v ∧ Rdr w' b r ∧ P w' v x
theorem Ends.ok {α : Type} {b : Nat} {w : World} {o : Option (α × By)} {P : World → Value → α → Prop} {e : Ending} {w' : World} {x : α} {r : By} (ho : o = some (x, r)) (hu : UpB b w w') {v : Value} (he : e = .returned v) (hr : Rdr w' b r) (hp : P w' v x) : Ends b w o P e w' := by
  subst ho; exact ⟨hu, v, he, hr, hp⟩
theorem Ends.bad {α : Type} {b : Nat} {w : World} {o : Option (α × By)} {P : World → Value → α → Prop} {e : Ending} {w' : World} (ho : o = none) (hu : UpB b w w') (he : e = .panicked pn) : Ends b w o P e w' := by
  subst ho; exact ⟨hu, he⟩
theorem number_any (w : World) (b : Nat) (s : By) (k : Nat) (h : Rdr w b s) (hs : s.length ≤ 16384) (hk2 : k ≤ 4) :
    Calls Tryz.prog 273 #[ptr b, .int .i64 k] w (Ends b w (nu k s) fun _ v n => v = .int .i64 (n : Nat)) := by
  by_cases hk : k ≤ s.length
  · refine (number_yes w b s k h hk hs hk2).mono ?_
    rintro e w' ⟨rfl, h1, h2⟩
    exact Ends.ok (x := le (s.take k)) (by simp [nu, tk, hk]) h2 rfl h1 rfl
  · refine (number_no w b s k h (by omega) hs hk2).mono ?_
    rintro e w' ⟨rfl, rfl⟩
    exact Ends.bad (by simp [nu, tk, hk]) (UpB.refl _ _) rfl
theorem take_any (w : World) (b : Nat) (s : By) (k : Nat) (h : Rdr w b s) (hs : s.length ≤ 16384) (hk2 : k < 4294967296) :
    Calls Tryz.prog 269 #[ptr b, .int .i64 k] w (Ends b w (tk k s) fun _ v a => v = .string (bs a)) := by
  by_cases hk : k ≤ s.length
  · refine (take_yes w b s k h hk hs).mono ?_
    rintro e w' ⟨rfl, rfl⟩
    exact Ends.ok (x := s.take k) (by simp [tk, hk]) ((UpB.refl _ _).setCell (Or.inl rfl) _) rfl (h.set _) rfl
  · refine (take_no w b s k h (by omega) hs hk2).mono ?_
    rintro e w' ⟨rfl, rfl⟩
    exact Ends.bad (by simp [tk, hk]) (UpB.refl _ _) rfl
theorem zero_any (w : World) (b : Nat) (s : By) (k : Nat) (h : Rdr w b s) (hs : s.length ≤ 16384) (hk2 : k ≤ 4) :
    Calls Tryz.prog 270 #[ptr b, .int .i64 k] w (Ends b w ((ze k s).map fun r => ((), r)) fun _ v _ => v = .tuple #[]) := by
  cases hn : nu k s with
  | none =>
    go_enter Tryz.func270, Tryz.ntmps270
    go_wp2_with fail
    go_at_call 273
    refine (number_any w b s k h hs hk2).mono ?_
    rw [hn]
    rintro e w1 ⟨u1, rfl⟩
    go_wp2
    exact ⟨rfl, Ends.bad (by simp [ze, hn]) u1 rfl⟩
  | some p =>
    obtain ⟨n, r⟩ := p
    by_cases h0 : n = 0
    · go_enter Tryz.func270, Tryz.ntmps270
      go_wp2_with fail
      go_at_call 273
      refine (number_any w b s k h hs hk2).mono ?_
      rw [hn]
      rintro e w1 ⟨u1, v, rfl, r1, rfl⟩
      subst h0
      go_wp2_with fail
      go_at_call 267
      refine (need_yes w1).mono ?_
      rintro e w2 ⟨rfl, rfl⟩
      go_wp2
      go_end0
      exact Ends.ok (x := ()) (r := r) (by simp [ze, hn]) u1 rfl r1 rfl
    · have hd : ((n : Int) == 0) = false := by simp; omega
      go_enter Tryz.func270, Tryz.ntmps270
      go_wp2_with fail
      go_at_call 273
      refine (number_any w b s k h hs hk2).mono ?_
      rw [hn]
      rintro e w1 ⟨u1, v, rfl, r1, rfl⟩
      go_wp2_with fail
      go_at_call 267
      refine (need_no w1).mono ?_
      rintro e w2 ⟨rfl, rfl⟩
      go_wp2
      exact ⟨rfl, Ends.bad (by simp [ze, hn, h0]) u1 rfl⟩
theorem tag_any (w : World) (b : Nat) (s : By) (h : Rdr w b s) (hs : s.length ≤ 16384) :
    Calls Tryz.prog 228 #[ptr b] w (Ends b w (tg s) fun _ v t => v = .int .i64 (t : Nat)) := by
  cases hn : nu 2 s with
  | none =>
    go_enter Tryz.func228, Tryz.ntmps228
    go_wp2_with fail
    go_at_call 273
    refine (number_any w b s 2 h hs (by decide)).mono ?_
    rw [hn]
    rintro e w1 ⟨u1, rfl⟩
    go_wp2
    exact ⟨rfl, Ends.bad (by simp [tg, hn]) u1 rfl⟩
  | some p =>
    obtain ⟨u, r⟩ := p
    have hl := nu_len hn
    cases hm : nu 2 r with
    | none =>
      go_enter Tryz.func228, Tryz.ntmps228
      go_wp2_with fail
      go_at_call 273
      refine (number_any w b s 2 h hs (by decide)).mono ?_
      rw [hn]
      rintro e w1 ⟨u1, v, rfl, r1, rfl⟩
      go_wp2_with fail
      go_at_call 273
      refine (number_any w1 b r 2 r1 (by omega) (by decide)).mono ?_
      rw [hm]
      rintro e w2 ⟨u2, rfl⟩
      go_wp2
      exact ⟨rfl, Ends.bad (by simp [tg, hn, hm]) (u1.trans u2) rfl⟩
    | some q =>
      obtain ⟨l, r2⟩ := q
      have hl2 := nu_len hm
      go_enter Tryz.func228, Tryz.ntmps228
      go_wp2_with fail
      go_at_call 273
      refine (number_any w b s 2 h hs (by decide)).mono ?_
      rw [hn]
      rintro e w1 ⟨u1, v, rfl, r1, rfl⟩
      go_wp2_with fail
      go_at_call 273
      refine (number_any w1 b r 2 r1 (by omega) (by decide)).mono ?_
      rw [hm]
      rintro e w2 ⟨u2, v, rfl, r2, rfl⟩
      go_wp2
      go_ret
      have h256 : (256 : Nat) ^ 2 = 65536 := rfl
      refine Ends.ok (x := 65536 * u + l) (by simp [tg, hn, hm]) (u1.trans u2) rfl r2 ?_
      show Value.int .i64 (bits .or .i64 ((u : Int) * 65536) (l : Int)) = _
      have e1 : (u : Int) * 65536 = ((2 ^ 16 * u : Nat) : Int) := by simp; omega
      rw [e1, i64_or_nat _ _ (by omega) (by omega), ← Nat.two_pow_add_eq_or_of_lt (by omega)]
theorem ret_bool {a b : Bool} (h : a = b) : Ending.returned (.bool a) = Ending.returned (.bool b) := by rw [h]
theorem reserved_any (w : World) (t : Nat) (_ht : t < 4294967296) : Calls Tryz.prog 241 #[.int .i64 t] w fun e w' => e = .returned (.bool (decide (t / 65536 = 65534))) ∧ w' = w := by
  go_enter Tryz.func241, Tryz.ntmps241
  go_wp2
  go_ret
  refine ⟨ret_bool ?_, rfl⟩
  rw [Bool.eq_iff_iff]
  simp
  omega
theorem pad_any (w : World) (k : By) : Calls Tryz.prog 191 #[.string (bs k)] w fun e w' => e = .returned (.string (bs [padB k])) ∧ w' = w := by
  have hk := bs_toList k
  by_cases hu : (k == [85, 73]) = true
  · go_enter Tryz.func191, Tryz.ntmps191
    go_wp2
    go_ret
    have : padB k = 0 := by unfold padB; exact if_pos (by simpa using hu)
    rw [this]
    exact ⟨rfl, rfl⟩
  · go_enter Tryz.func191, Tryz.ntmps191
    go_wp2
    go_ret
    have : padB k = 32 := by unfold padB; exact if_neg (by simpa using hu)
    rw [this]
    exact ⟨rfl, rfl⟩
theorem clone_any (w : World) (s : By) (hs : s.length ≤ 16384) : Calls Tryz.prog 268 #[.string (bs s)] w fun e w' => e = .returned (.string (bs s)) ∧ Below w.heap.size w w' := by
  go_enter Tryz.func268, Tryz.ntmps268
  go_wp2_with fail
  go_at_call 301
  refine (Tryz.stringslite_Clone (bs s) w (by rw [bs_size]; omega)).mono ?_
  rintro e w1 ⟨rfl, h1⟩
  go_wp2
  go_ret
  exact ⟨rfl, h1⟩
theorem trim_eq (s : By) (p : UInt8) : Lib.trimRightB s p = trimB p s := by
  unfold Lib.trimRightB trimB
  rfl
theorem trimB_len (p : UInt8) (v : By) : (trimB p v).length ≤ v.length := by
  unfold trimB
  rw [List.length_reverse]
  have := (List.dropWhile_sublist (l := v.reverse) (· == p)).length_le
  rwa [List.length_reverse] at this
theorem padB_lt (k : By) : (padB k).toNat < 128 := by
  unfold padB
  split <;> decide
theorem value_any (w : World) (b : Nat) (k s : By) (h : Rdr w b s) (hs : s.length ≤ 16384) :
    Calls Tryz.prog 272 #[ptr b, .string (bs k)] w (Ends b w (va k s) fun _ v t => v = .string (bs t)) := by
  cases hn : nu 2 s with
  | none =>
    go_enter Tryz.func272, Tryz.ntmps272
    go_wp2_with fail
    go_at_call 273
    refine (number_any w b s 2 h hs (by decide)).mono ?_
    rw [hn]
    rintro e w1 ⟨u1, rfl⟩
    go_wp2
    exact ⟨rfl, Ends.bad (by simp [va, hn]) u1 rfl⟩
  | some p =>
    obtain ⟨n, r⟩ := p
    have hl := nu_len hn
    have h256 : (256 : Nat) ^ 2 = 65536 := rfl
    by_cases h0 : n % 2 = 0
    · have hd : ((n : Int) % 2 == 0) = true := by simp; omega
      go_enter Tryz.func272, Tryz.ntmps272
      go_wp2_with fail
      go_at_call 273
      refine (number_any w b s 2 h hs (by decide)).mono ?_
      rw [hn]
      rintro e w1 ⟨u1, v, rfl, r1, rfl⟩
      go_wp2_with fail
      go_at_call 267
      refine (need_yes w1).mono ?_
      rintro e w2 ⟨rfl, rfl⟩
      go_wp2_with fail
      go_at_call 269
      refine (take_any w2 b r n r1 (by omega) (by omega)).mono ?_
      cases ht : tk n r with
      | none =>
        rintro e w3 ⟨u3, rfl⟩
        go_wp2
        exact ⟨rfl, Ends.bad (by simp [va, hn, h0, ht]) (u1.trans u3) rfl⟩
      | some q =>
        obtain ⟨x, r3⟩ := q
        have hl3 := tk_len ht
        have htl := trimB_len (padB k) x
        rintro e w3 ⟨u3, v, rfl, r3', rfl⟩
        go_wp2_with fail
        go_at_call 191
        refine (pad_any w3 k).mono ?_
        rintro e w4 ⟨rfl, rfl⟩
        go_wp2_with fail
        go_at_call 305
        refine (Tryz.strings_TrimRight_one (bs x) (padB k) (padB_lt k) w4 (by rw [bs_size]; omega)).mono ?_
        rintro e w5 ⟨rfl, rfl⟩
        rw [show (⟨(Lib.trimRightB (bs x).data.toList (padB k)).toArray⟩ : ByteArray) = bs (trimB (padB k) x) by rw [bs_list, trim_eq]; rfl]
        go_wp2_with fail
        go_at_call 268
        refine (clone_any w5 (trimB (padB k) x) (by omega)).mono ?_
        rintro e w6 ⟨rfl, u6⟩
        go_wp2
        go_ret
        refine Ends.ok (x := trimB (padB k) x) (r := r3) (by simp [va, hn, h0, ht]) ((u1.trans u3).trans (UpB.of_below u6)) rfl (r3'.below u6) rfl
    · have hd : ((n : Int) % 2 == 0) = false := by simp; omega
      go_enter Tryz.func272, Tryz.ntmps272
      go_wp2_with fail
      go_at_call 273
      refine (number_any w b s 2 h hs (by decide)).mono ?_
      rw [hn]
      rintro e w1 ⟨u1, v, rfl, r1, rfl⟩
      go_wp2_with fail
      go_at_call 267
      refine (need_no w1).mono ?_
      rintro e w2 ⟨rfl, rfl⟩
      go_wp2
      exact ⟨rfl, Ends.bad (by simp [va, hn, h0]) u1 rfl⟩
end Go.Proofs.YtaokifbpakbgdaaGreatDoor

/- Package dataset's reader, its loops and its recursion: what is read, and how deep. -/
namespace Go.Proofs.YtaokifbpakbgdaaGreatDoor
open Go.RowKit

/-- How many bytes a reader has left. -/
def left (b : Nat) (w : World) : Nat := match w.cell? ⟨b, 0, none⟩ with
  | some (.string s) => s.size
  | _ => 0
theorem Rdr.left {w : World} {b : Nat} {s : By} (h : Rdr w b s) : left b w = s.length := by
  unfold Go.Proofs.YtaokifbpakbgdaaGreatDoor.left
  rw [h.cell]; rfl
theorem info_el : (Tryz.prog.info? 73).map (fun i => (i.zero, i.size, i.bytes)) = some (some (.agg #[.int .i64 0, .string ByteArray.empty, .string ByteArray.empty, .slice none 0 0]), 4, 64) := by kernel_rfl
theorem info_it : (Tryz.prog.info? 182).map (fun i => (i.zero, i.size, i.bytes)) = some (some (.agg #[.slice none 0 0]), 1, 24) := by kernel_rfl
/-- An element's value. -/
def EV (w : World) (n : Nat) (v : Value) (x : El n) (b : List Nat) : Prop := ∃ t k u a l c, v = .agg #[.int .i64 t, .string k, .string u, .slice a l c] ∧ CE w n [.int .i64 t, .string k, .string u, .slice a l c] x b
/-- Blocks, none twice, that were made on the way from a world to another one. -/
def New (w w' : World) (b : List Nat) : Prop := b.Nodup ∧ ∀ j ∈ b, w.heap.size ≤ j ∧ j < w'.heap.size
theorem four_cells (w : World) (T : TypeId) (c0 c1 c2 c3 : Value) : ∀ j u, [c0, c1, c2, c3][j]? = some u → (w.alloc (.cells #[c0, c1, c2, c3] T)).cell? ((⟨w.heap.size, 0, none⟩ : Addr).add j) = some u := by
  intro j u hj
  rw [Addr.add_lit]
  match j, hj with
  | 0, hj | 1, hj | 2, hj | 3, hj => simp at hj; subst hj; simp
  | j + 4, hj => simp at hj
theorem four_one {t : Int} {k u : ByteArray} {a : Option Addr} {l c : Nat} : ∀ v ∈ [Value.int .i64 t, .string k, .string u, .slice a l c], v.oneCell' = true := by
  intro v hv
  simp at hv
  rcases hv with rfl | rfl | rfl | rfl <;> rfl
/-- What is asked of the method 'element', at a depth. -/
def ElC (m : Nat) : Prop := ∀ (n : Nat) (w : World) (b : Nat) (s : By) (t : Nat), Rdr w b s → s.length ≤ 16384 → s.length < m → t < 4294967296 →
  Calls Tryz.prog 227 #[ptr b, .int .i64 t] w (Ends b w (elP m n t s) fun w' v x => ∃ bl, EV w' n v x bl ∧ New w w' bl)
theorem New.nil (w w' : World) : New w w' [] := ⟨List.nodup_nil, fun j hj => by cases hj⟩
theorem New.more {w0 w w' : World} {l : List Nat} (h : New w0 w l) (hs : w.heap.size ≤ w'.heap.size) : New w0 w' l := ⟨h.1, fun j hj => ⟨(h.2 j hj).1, Nat.lt_of_lt_of_le (h.2 j hj).2 hs⟩⟩
/-- One thing more in a row of one's own. -/
theorem Row.snoc {α : Type} {w0 w w' : World} {T : TypeId} {k : Nat} {R R' : List Value → α → List Nat → Prop} {v v' : Value} {l : List α} {xs c : List Value} {cs b : List Nat} {x : α} (hls : Ls k R xs l cs) (hc : c.length = k) (hx : R c x b)
    (hsz : w0.heap.size ≤ w.heap.size) (hn : New w0 w (v.ownBlock.toList ++ cs ++ b)) (hown' : w'.ownsRow 0 T k v' (l.length + 1) (xs ++ c)) (hg : w.grownBy w' v.ownBlock) (hv : v'.ownBlock = v.ownBlock ∨ ∀ g ∈ v'.ownBlock.toList, w.heap.size ≤ g)
    (hR : ∀ c y b', (∀ j ∈ b', j < w.heap.size ∧ w'.heap[j]? = w.heap[j]?) → R c y b' → R' c y b') :
    Ls k R' (xs ++ c) (l ++ [x]) (cs ++ b) ∧ w'.ownsRow 0 T k v' (l ++ [x]).length (xs ++ c) ∧ New w0 w' (v'.ownBlock.toList ++ (cs ++ b)) := by
  obtain ⟨hn1, hn2⟩ := hn
  rw [List.append_assoc] at hn1 hn2
  have hne : ∀ j ∈ cs ++ b, j < w.heap.size ∧ w'.heap[j]? = w.heap[j]? := fun j hj => by
    have h1 := hn2 j (List.mem_append_right _ hj)
    refine ⟨h1.2, hg.block j h1.2 (fun e => ?_)⟩
    have := (List.nodup_append.1 hn1).2.2 j (by rw [← e]; simp) j hj
    exact this rfl
  refine ⟨(hls.snoc hc hx).mono (fun c y b' hb' _ hr => hR c y b' (fun j hj => hne j (hb' j hj)) hr), by rw [List.length_append]; exact hown', ?_, ?_⟩
  · rcases hv with e | e
    · rw [e]; exact hn1
    · refine List.nodup_append.2 ⟨?_, (List.nodup_append.1 hn1).2.1, fun a ha j hj => ?_⟩
      · cases v'.ownBlock <;> simp
      · have h1 := e a ha
        have h2 := (hne j hj).1
        omega
  · intro j hj
    rcases List.mem_append.1 hj with hj | hj
    · rcases hv with e | e
      · have := hn2 j (List.mem_append_left _ (by rw [← e]; exact hj))
        have := hg.size
        omega
      · have h1 := e j hj
        exact ⟨by omega, ownsRow_lt hown' j hj⟩
    · have := hn2 j (List.mem_append_right _ hj)
      have := hg.size
      omega
/-- Behind 'append(l, x)': x was laid in a block of its own first. -/
theorem Row.push {α : Type} {w0 w w' : World} {o : Obj} {T : TypeId} {k : Nat} {R : World → List Value → α → List Nat → Prop} (hK : ∀ w w' c x b, R w c x b → (∀ j ∈ b, w'.heap[j]? = w.heap[j]?) → R w' c x b) {v v' : Value} {l : List α} {xs c : List Value} {cs b : List Nat} {x : α}
    (hls : Ls k (R w) xs l cs) (hc : c.length = k) (hx : R w c x b) (hsz : w0.heap.size ≤ w.heap.size) (hn : New w0 w (v.ownBlock.toList ++ cs ++ b)) (hown' : w'.ownsRow 0 T k v' (l.length + 1) (xs ++ c)) (hg : (w.alloc o).grownBy w' v.ownBlock)
    (hv : Moved (w.alloc o) v v') :
    Ls k (R w') (xs ++ c) (l ++ [x]) (cs ++ b) ∧ w'.ownsRow 0 T k v' (l ++ [x]).length (xs ++ c) ∧ New w0 w' (v'.ownBlock.toList ++ (cs ++ b)) := by
  have hsa : w.heap.size ≤ (w.alloc o).heap.size := by simp
  have ha : ∀ j, j < w.heap.size → (w.alloc o).heap[j]? = w.heap[j]? := fun j hj => Below.heap_alloc w o j hj
  have hlt : ∀ j ∈ cs ++ b, j < w.heap.size := fun j hj => (hn.2 j (by rw [List.append_assoc]; exact List.mem_append_right _ hj)).2
  refine Row.snoc (w := w.alloc o) (R := R (w.alloc o)) (hls.mono (fun c y b' hb' _ hr => hK _ _ _ _ _ hr (fun j hj => ha j (hlt j (List.mem_append_left _ (hb' j hj)))))) hc (hK _ _ _ _ _ hx (fun j hj => ha j (hlt j (List.mem_append_right _ hj)))) (Nat.le_trans hsz hsa) (hn.more hsa) hown' hg hv
    (fun c y b' hb' hr => hK _ _ _ _ _ hr (fun j hj => (hb' j hj).2))
theorem UpB.old {b : Nat} {w0 w w' : World} (h : UpB b w w') {l : List Nat} (hl : New w0 w l) (hb : b < w0.heap.size) : ∀ j ∈ l, w'.heap[j]? = w.heap[j]? := fun j hj => h.block (hl.2 j hj).2 (by have := (hl.2 j hj).1; omega)
theorem New.add {w0 w w' : World} {l b : List Nat} (h : New w0 w l) (hb : New w w' b) (h0 : w0.heap.size ≤ w.heap.size) (hs : w.heap.size ≤ w'.heap.size) : New w0 w' (l ++ b) :=
  ⟨List.nodup_append.2 ⟨h.1, hb.1, fun i hi j hj => by have := (h.2 i hi).2; have := (hb.2 j hj).1; omega⟩, fun j hj => by
    rcases List.mem_append.1 hj with hj | hj
    · exact (h.more hs).2 j hj
    · exact ⟨Nat.le_trans h0 (hb.2 j hj).1, (hb.2 j hj).2⟩⟩
theorem set_any (m : Nat) (H : ElC m) (n : Nat) (w : World) (b : Nat) (s : By) (h : Rdr w b s) (hs : s.length ≤ 16384) (hm : s.length < m + 4) :
    Calls Tryz.prog 174 #[ptr b] w (Ends b w ((toEnd (elP m n) s.length s).map fun l => (l, [])) fun w' v l => ∃ bl, Ow w' n v l bl ∧ New w w' bl) := by
  obtain ⟨i0, hi, hz0, hz1, hz2⟩ := info_parts info_el
  have HI := hid hi
  clear hi
  have hE := elP_eats m n
  go_enter Tryz.func174, Tryz.ntmps174
  go_wp2_with fail
  go_loopw [3] (fun v wr => ∃ (done : List (El n)) (r : By) (xs : List Value) (cs : List Nat), Hid (toEnd (elP m n) s.length s = (toEnd (elP m n) r.length r).map (done ++ ·)) ∧ Hid (done.length + r.length ≤ s.length) ∧ Rdr wr b r ∧ Hid (UpB b w wr) ∧
      Hid (wr.ownsRow 0 73 4 v done.length xs) ∧ Hid (Ls 4 (CE wr n) xs done cs) ∧ Hid (New w wr (v.ownBlock.toList ++ cs))) (fun _ wr => left b wr)
  case atStart => exact ⟨[], s, [], [], by unfold Hid; simp, by unfold Hid; simp, h, UpB.refl _ _, World.ownsRow_nil _ _ _ _, ⟨rfl, rfl⟩, New.nil _ _⟩
  case round =>
    obtain ⟨done, r, xs, cs, hspec, hlen, hr, hup, hown, hes, hnew⟩ := hrel
    have hc := hr.cell
    have hl := bs_toList r
    by_cases hr0 : r = []
    · subst hr0
      go_wp2_with fail
      go_ret
      have e : toEnd (elP m n) s.length s = some done := by rw [hspec.out]; simp [toEnd]
      refine Ends.ok (x := done) (r := []) (by rw [e]; rfl) hup.out rfl hr ⟨_, ?_, hnew.out⟩
      rw [Ow_eq]
      exact ⟨xs, cs, hown.out, hes.out, rfl⟩
    · have hne : r.isEmpty = false := by cases r with | nil => exact absurd rfl hr0 | cons _ _ => rfl
      have hne2 : (r == []) = false := by cases r with | nil => exact absurd rfl hr0 | cons _ _ => rfl
      have hstep := hid (toEnd_step hE hr0)
      clear hr0
      go_wp2_with fail
      go_at_call 228
      refine (tag_any wr b r hr (by have := hlen.out; omega)).mono ?_
      cases htg : tg r with
      | none =>
        rintro e w1 ⟨u1, rfl⟩
        go_wp2
        refine ⟨rfl, Ends.bad ?_ (hup.out.trans u1) rfl⟩
        rw [hspec.out, hstep.out, htg]; rfl
      | some p =>
        obtain ⟨t, r1⟩ := p
        have h1 := tg_len htg
        rintro e w1 ⟨u1, v, rfl, r1', rfl⟩
        go_wp2_with fail
        go_at_call 227
        refine (H n w1 b r1 t r1' (by have := hlen.out; omega) (by have := hlen.out; omega) h1.2).mono ?_
        cases hel : elP m n t r1 with
        | none =>
          rintro e w2 ⟨u2, rfl⟩
          go_wp2
          refine ⟨rfl, Ends.bad ?_ ((hup.out.trans u1).trans u2) rfl⟩
          rw [hspec.out, hstep.out, htg]
          simp only []
          rw [hel]; rfl
        | some q =>
          obtain ⟨x, r2⟩ := q
          have h2 := hE _ _ _ _ hel
          rintro e w2 ⟨u2, v, rfl, r2', bl, ⟨t', k', u', a', l', c', rfl, hce⟩, hbl⟩
          have hb : b < w.heap.size := h.lt
          have u12 := u1.trans u2
          have hold : ∀ j ∈ u3.ownBlock.toList ++ cs, w2.heap[j]? = wr.heap[j]? := u12.old hnew.out hb
          have hown2 := hid (ownsRow_keep hown.out (fun j hj => hold j (List.mem_append_left _ hj)))
          have hes2 := hid (hes.out.mono (R' := CE w2 n) (fun c y b' hb' _ hr => hr.keep (fun j hj => hold j (List.mem_append_right _ (hb' j hj)))))
          clear hold
          have hnew2 := hid (New.add (hnew.out.more u1.size) hbl (Nat.le_trans hup.out.size u1.size) u2.size)
          go_wp2_with (at_builtin; refine wpList_append_sep _ rfl _ _ 59 rfl 73 i0 _ 4 64 Tryz.underlying59 HI.out hz0 hz1 hz2 rfl (by decide) _ _ _ rfl (hown2.out.alloc _) ⟨w2.heap.size, 0, none⟩ 1 1 [.int .i64 t', .string k', .string u', .slice a' l' c'] rfl rfl (four_cells _ _ _ _ _ _) four_one (by unfold maxLen; have := hlen.out; omega) (by have := hlen.out; omega) ?_)
          intro v' w3 hown' hg hv
          have R := hid (Row.push (R := fun w => CE w n) (fun _ _ _ _ _ h k => h.keep k) hes2.out rfl hce (Nat.le_trans hup.out.size u12.size) hnew2.out hown' hg hv)
          have hr3 := (r2'.below (Below.alloc (Below.refl _ _) (Nat.le_refl _) (.cells #[.int .i64 t', .string k', .string u', .slice a' l' c'] 73)))
          have u3' := hid ((((hup.out.trans u12).alloc (.cells #[.int .i64 t', .string k', .string u', .slice a' l' c'] 73)).grown hg (fun k hk => Or.inr ((hnew.out.2 k (List.mem_append_left _ (by rw [hk]; simp))).1))))
          have hr4 : Rdr w3 b r2 := by rw [Rdr, hg.block b hr3.lt (fun e => by have := (hnew.out.2 b (List.mem_append_left _ (by rw [← e]; simp))).1; omega)]; exact hr3
          clear hown' hg hv
          go_wp2
          go_roundw
          case rel =>
            refine ⟨done ++ [x], r2, _, _, ?_, ?_, hr4, u3', R.out.2.1, R.out.1, R.out.2.2⟩
            · unfold Hid
              rw [hspec.out, hstep.out, htg]
              simp only []
              rw [hel]
              simp only []
              cases toEnd (elP m n) r2.length r2 <;> simp
            · have := hlen.out
              unfold Hid
              rw [List.length_append, List.length_singleton]
              omega
          case measure =>
            rw [hr4.left, hr.left]
            omega
end Go.Proofs.YtaokifbpakbgdaaGreatDoor
