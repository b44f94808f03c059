/-
  Package dataset's checkSet and Decode.
-/
import Derived.Test.YtaokifbpakbgdaaGreatDoorChk
namespace Go.Proofs.YtaokifbpakbgdaaGreatDoor
open Go.RowKit

theorem checkSet_succ (n : Nat) (H : SetC n) : SetC (n + 1) := by
  intro F w v l d hd hn h
  obtain ⟨ad, cap, rfl⟩ := h.slice
  by_cases hlen : 24 < l.length
  · have d1 : decide ((24 : Int) < (l.length : Int)) = true := by simp; omega
    go_enter Tryz.func63, Tryz.ntmps63
    go_wp2_with fail
    go_ret
    exact ⟨ret_int (by rw [errS, if_pos hlen]), Below.refl _ _⟩
  have d1 : decide ((24 : Int) < (l.length : Int)) = false := by simp; omega
  have E1 := hid (show errS (n + 1) d l = errL (errE (errI (errS n (d + 1))) d) (fun x => x.1) (-1) l by rw [errS, if_neg hlen])
  go_enter Tryz.func63, Tryz.ntmps63
  go_wp2_with fail
  go_loopw [5, 14] (fun bv i wr => ∃ (k : Nat) (b : Int), k ≤ l.length ∧ i = .int .i64 k ∧ bv = .int .i64 b ∧ Hid (Below w.heap.size w wr) ∧ Hid (errS (n + 1) d l = errL (errE (errI (errS n (d + 1))) d) (fun x => x.1) b (l.drop k))) (fun _ i _ => l.length - (intOf i).toNat)
  case atStart => exact ⟨0, -1, Nat.zero_le _, rfl, rfl, Below.refl _ _, E1.out⟩
  case round =>
    obtain ⟨k, b, hk, rfl, rfl, hup, hspec⟩ := hrel
    by_cases hkl : k < l.length
    · obtain ⟨a, ad2, cap2, rfl, _, c0, c1, c2, c3, hrd⟩ := (h.up hup.out).at (List.getElem?_eq_getElem hkl)
      have hrd' := hid hrd
      clear hrd
      have hdr : l.drop k = l[k] :: l.drop (k + 1) := List.drop_eq_getElem_cons hkl
      generalize l[k] = x at hrd' hdr c0 c1 c2 c3
      go_wp2_with fail
      go_at_call 117
      refine (checkElement_any n H F _ x _ b d hd hn (hrd'.out.up (Below.alloc (Below.refl _ _) (Nat.le_refl _) _))).mono ?_
      rintro e w2 ⟨rfl, u2⟩
      have hx2 := (Four.new wr (.int .i64 x.1) (.string (bs x.2.1)) (.string (bs x.2.2.1)) (.slice ad2 x.2.2.2.length cap2)).keep (u2.block _ (by simp))
      obtain ⟨⟨x0, _⟩, _⟩ := hx2.cells
      have hup2 := hid ((Below.alloc hup.out hup.out.size (.cells #[.int .i64 x.1, .string (bs x.2.1), .string (bs x.2.2.1), .slice ad2 x.2.2.2.length cap2] 73)).trans (u2.mono (by have := hup.out.size; simp; omega)))
      clear u2 hx2
      have hstep := hid (show errL (errE (errI (errS n (d + 1))) d) (fun x => x.1) b (l.drop k) = if errE (errI (errS n (d + 1))) d b x = 0 then errL (errE (errI (errS n (d + 1))) d) (fun x => x.1) x.1 (l.drop (k + 1)) else errE (errI (errS n (d + 1))) d b x by rw [hdr]; rfl)
      clear hdr
      generalize errE (errI (errS n (d + 1))) d b x = ee at hstep ⊢
      by_cases he : ee = 0
      · subst he
        go_wp2
        go_roundw
        case rel => exact ⟨k + 1, x.1, by omega, by go_num, rfl, hup2, by unfold Hid; rw [hspec.out, hstep.out]; simp⟩
        case measure => simp [intOf]; omega
      · have he2 : (ee != 0) = true := by simpa using he
        have he3 := hid he
        clear he
        go_wp2
        go_ret
        exact ⟨ret_int (by rw [hspec.out, hstep.out, if_neg he3.out]), hup2.out⟩
    · go_wp2
      go_ret
      refine ⟨ret_int ?_, hup.out⟩
      rw [hspec.out, List.drop_eq_nil_of_le (by omega)]; rfl
theorem checkSet_any : ∀ n, SetC n
  | 0 => fun _ _ _ _ _ h1 h2 _ => absurd h2 (by omega)
  | n + 1 => checkSet_succ n (checkSet_any n)
/-- The error that Decode answers. -/
def decE (n : Nat) (s : By) : Int := if 16384 < s.length then 4 else match parse n s with
  | none => 1
  | some l => errS n 0 l
/-- How Decode ends. -/
def DecEnd (n : Nat) (w : World) (s : By) (e : Ending) (w' : World) : Prop := Below w.heap.size w w' ∧
  ((decE n s ≠ 0 ∧ e = .returned (.tuple #[.slice none 0 0, .int .i64 (decE n s)])) ∨
   (decE n s = 0 ∧ ∃ l v bl, parse n s = some l ∧ errS n 0 l = 0 ∧ e = .returned (.tuple #[v, .int .i64 0]) ∧ Ow w' n v l bl ∧ New w w' bl))
theorem Decode_any (w : World) (n : Nat) (hn : 3 ≤ n) (s : By) :
    Calls Tryz.prog 58 #[.string (bs s)] w (DecEnd n w s) := by
  have hz := bs_size s
  by_cases hs : 16384 < s.length
  · have d1 : decide ((16384 : Int) < (s.length : Int)) = true := by simp; omega
    have e1 := hid (show decE n s = 4 by unfold decE; rw [if_pos hs])
    go_enter Tryz.func58, Tryz.ntmps58
    go_wp2_with fail
    go_ret2
    exact ⟨Below.refl _ _, Or.inl ⟨by rw [e1.out]; decide, by rw [e1.out]; rfl⟩⟩
  have d1 : decide ((16384 : Int) < (s.length : Int)) = false := by simp; omega
  go_enter Tryz.func58, Tryz.ntmps58
  go_wp2_with fail
  go_at_call 108
  refine (read_any w n s (by omega)).mono ?_
  cases hp : parse n s with
  | none =>
    have e1 := hid (show decE n s = 1 by unfold decE; rw [if_neg hs, hp])
    rintro e w1 ⟨u1, rfl⟩
    have u1' := hid u1
    clear u1
    go_wp2_with fail
    go_ret2
    exact ⟨u1'.out, Or.inl ⟨by rw [e1.out]; decide, by rw [e1.out]; rfl⟩⟩
  | some l =>
    have e1 := hid (show decE n s = errS n 0 l by unfold decE; rw [if_neg hs, hp])
    rintro e w1 ⟨u1, v, bl, rfl, how, hbl⟩
    have u1' := hid u1
    clear u1
    go_wp2_with fail
    go_at_call 63
    refine (checkSet_any n (fun _ => True) w1 v l 0 (by omega) (by omega) (how.rd _ _ _ _ _ (fun _ _ => trivial))).mono ?_
    rintro e w2 ⟨rfl, u2⟩
    have how2 := hid (how.keep (w' := w2) _ _ _ _ (fun j hj => u2.block j (hbl.2 j hj).2))
    have hbl2 := hid (hbl.more u2.size)
    have u2' := hid (u1'.out.trans (u2.mono u1'.out.size))
    clear u2 how hbl
    have hE := hid (rfl : errS n 0 l = errS n 0 l)
    generalize hee : errS n 0 l = ee at e1 ⊢
    by_cases he : ee = 0
    · subst he
      go_wp2
      go_ret2
      exact ⟨u2'.out, Or.inr ⟨e1.out, l, v, bl, hp, hee, rfl, how2.out, hbl2.out⟩⟩
    · have he2 : (ee != 0) = true := by simpa using he
      have he4 : (ee == 0) = false := by simpa using he
      have he3 := hid he
      clear he hE
      have hee' := hid hee
      clear hee
      go_wp2
      go_ret2
      exact ⟨u2'.out, Or.inl ⟨by rw [e1.out]; exact he3.out, by rw [e1.out]; rfl⟩⟩
end Go.Proofs.YtaokifbpakbgdaaGreatDoor
