/-
  Package folioref, the document's own answer on data sets: Decode.
-/
import Derived.Test.YtaokifbpakbgdaaGreatDoorRefd7
namespace Go.Proofs.YtaokifbpakbgdaaGreatDoor
open Go.RowKit

set_option maxRecDepth 20000 in
theorem rDecode_any (w : World) (n : Nat) (hn : 3 ≤ n) (s : By) :
    Calls Tryz.prog 98 #[.string (bs s)] w (DecEnd n w s) := by
  have hz := bs_size s
  by_cases hs : 16384 < s.length
  · have d1 : decide ((16384 : Int) < (s.length : Int)) = true := by simp; omega
    have e1 := hid (show decE n s = 4 by unfold decE; rw [if_pos hs])
    go_enter Tryz.func98, Tryz.ntmps98
    go_wp2_with fail
    go_ret2
    exact ⟨Below.refl _ _, Or.inl ⟨by rw [e1.out]; decide, by rw [e1.out]; rfl⟩⟩
  have d1 : decide ((16384 : Int) < (s.length : Int)) = false := by simp; omega
  have hset := hid (rset_any (s.length + 1) (relement_all _) n w s 0 s.length false (by omega) (Nat.zero_le _) (Nat.le_refl _) (by omega))
  have hpa := hid (parse_set n s)
  have hdec := hid (show decE n s = match parse n s with | none => 1 | some l => errS n 0 l by unfold decE; rw [if_neg hs]; cases parse n s <;> rfl)
  go_enter Tryz.func98, Tryz.ntmps98
  go_wp2_with fail
  go_at_call 160
  refine hset.out.mono ?_
  clear hset
  rw [win_all]
  generalize setP false 4294893581 (elP (s.length + 1) n) s = oo at hpa
  cases oo with
  | none =>
    have e1 := hid (show decE n s = 1 by rw [hdec.out, hpa.out]; rfl)
    rintro e w1 ⟨u1, v, rfl, rfl⟩
    have u1' := hid u1
    clear u1 hpa hdec
    go_wp2_with fail
    go_ret2
    exact ⟨u1'.out, Or.inl ⟨by rw [e1.out]; decide, by rw [e1.out]; rfl⟩⟩
  | some q =>
    obtain ⟨l, r⟩ := q
    have e1 := hid (show decE n s = errS n 0 l by rw [hdec.out, hpa.out]; rfl)
    have hp := hid (show parse n s = some l by rw [hpa.out]; rfl)
    rintro e w1 ⟨u1, v, b, hr, hb, rfl, bl, how, hbl⟩
    have u1' := hid u1
    clear u1 hpa hdec hr
    go_wp2_with fail
    go_at_call 92
    refine (rwrong_any n (fun _ => True) w1 v l 0 (by omega) (by omega) (how.rd _ _ _ _ _ (fun _ _ => trivial))).mono ?_
    rintro e w2 ⟨rfl, u2⟩
    have how2 := hid (how.keep (w' := w2) _ _ _ _ (fun j hj => u2.block j (hbl.2 j hj).2))
    have hbl2 := hid (hbl.more u2.size)
    have u2' := hid (u1'.out.trans (u2.mono u1'.out.size))
    clear u2 how hbl
    have hE := hid (rfl : errS n 0 l = errS n 0 l)
    generalize hee : errS n 0 l = ee at e1 ⊢
    by_cases he : ee = 0
    · subst he
      have hee' := hid hee
      clear hee hE
      go_wp2
      go_ret2
      exact ⟨u2'.out, Or.inr ⟨e1.out, l, v, bl, hp.out, hee'.out, rfl, how2.out, hbl2.out⟩⟩
    · have he2 : (ee != 0) = true := by simpa using he
      have he3 := hid he
      clear he hE
      have hee' := hid hee
      clear hee
      go_wp2
      go_ret2
      exact ⟨u2'.out, Or.inl ⟨by rw [e1.out]; exact he3.out, by rw [e1.out]; rfl⟩⟩
end Go.Proofs.YtaokifbpakbgdaaGreatDoor
