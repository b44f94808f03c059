/-
  Package folioref, the document's own answer on data sets: Encode.
-/
import Derived.Test.YtaokifbpakbgdaaGreatDoorRefd2
namespace Go.Proofs.YtaokifbpakbgdaaGreatDoor
open Go.RowKit

set_option maxRecDepth 20000 in
theorem rEncode_any (n : Nat) (hn : 3 ≤ n) (F : Nat → Prop) (w : World) (sv : Value) (l : List (El n)) (h : Rd w F n sv l) (hl : (wrS false 0 n l).length ≤ 274877906944) :
    Calls Tryz.prog 45 #[sv] w (EncEnd n w l) := by
  obtain ⟨ad, cap, rfl⟩ := h.slice
  go_enter Tryz.func45, Tryz.ntmps45
  go_wp2_with fail
  go_at_call 92
  refine (rwrong_any n F w _ l 0 (by omega) (by omega) h).mono ?_
  rintro e w1 ⟨rfl, u1⟩
  have u1' := hid u1
  have hrd1 := hid (h.up u1)
  clear u1
  have hl' := hid hl
  clear hl
  generalize hee : errS n 0 l = ee
  have hee' := hid hee
  clear hee
  by_cases he : ee = 0
  · subst he
    go_wp2_with fail
    go_at_call 93
    refine (rwritten_any n F w1 _ l 0 hrd1.out hee'.out (by omega) (by omega) hl'.out).mono ?_
    rintro e w2 ⟨rfl, u2⟩
    have u2' := hid (u1'.out.trans (u2.mono u1'.out.size))
    clear u2
    generalize hwb : wrS false 0 n l = wb
    have hwb' := hid hwb
    clear hwb
    go_wp2
    go_ret2
    exact ⟨u2'.out, Or.inr ⟨hee'.out, by rw [hwb'.out]; rfl⟩⟩
  · have he2 : (ee != 0) = true := by simpa using he
    have he3 := hid he
    clear he
    go_wp2
    go_ret2
    exact ⟨u1'.out, Or.inl ⟨by rw [hee'.out]; exact he3.out, by rw [hee'.out]; rfl⟩⟩
end Go.Proofs.YtaokifbpakbgdaaGreatDoor
