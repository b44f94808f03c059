/-
  Package foliokeep: a data set is the same as itself, wherever it lies.
-/
import Derived.Test.YtaokifbpakbgdaaDoorKeep2
namespace Go.Proofs.YtaokifbpakbgdaaDoor
open Go.RowKit

def KS (n : Nat) : Prop := ∀ (F G : Nat → Prop) (w : World) (a b : Value) (l : List (El n)) (d : Nat), Rd w F n a l → Rd w G n b l → errS n d l = 0 → d ≤ 2 → 3 ≤ d + n →
  Calls Tryd.prog 19 #[a, b] w fun e w' => e = .returned (.bool true) ∧ Below w.heap.size w w'
set_option maxHeartbeats 4000000 in
set_option maxRecDepth 20000 in
theorem ksame_succ (n : Nat) (H : KS n) : KS (n + 1) := by
  intro F G w va vb l d ha hb he hd hn
  obtain ⟨ad, cap, rfl⟩ := ha.slice
  obtain ⟨bd, cbp, rfl⟩ := hb.slice
  rw [errS] at he
  by_cases h24 : 24 < l.length
  · rw [if_pos h24] at he; cases he
  rw [if_neg h24] at he
  have hels := errL_mem he
  clear he
  go_enter Tryd.func19, Tryd.ntmps19
  go_wp2_with fail
  go_loopw [5] (fun i wr => ∃ k : Nat, k ≤ l.length ∧ i = .int .i64 k ∧ Hid (Below w.heap.size w wr)) (fun i _ => l.length - (intOf i).toNat)
  case atStart => exact ⟨0, Nat.zero_le _, rfl, Below.refl _ _⟩
  case round =>
    obtain ⟨k, hk, rfl, hup⟩ := hrel
    by_cases hkl : k < l.length
    · have ha' := hid (ha.up hup.out)
      have hb' := hid (hb.up hup.out)
      obtain ⟨a, ad2, cap2, rfl, hF, c0, c1, c2, c3, hrd⟩ := ha'.out.at (List.getElem?_eq_getElem hkl)
      obtain ⟨b, bd2, cbp2, rfl, hG, g0, g1, g2, g3, hrg⟩ := hb'.out.at (List.getElem?_eq_getElem hkl)
      obtain ⟨before, hbef⟩ := hels l[k] (List.getElem_mem hkl)
      generalize l[k] = x at hrd hrg hbef c0 c1 c2 c3 g0 g1 g2 g3
      obtain ⟨t, kd, u, its⟩ := x
      obtain ⟨e1, e2, e3, e4, e5, e6, e7, e8, e9, e10, e11, e12⟩ := errE_ok hbef
      simp only at e1 e2 e3 e4 e5 e6 e7 e8 e9 e10 e11 e12 c0 c1 c2 c3 g0 g1 g2 g3 hrd hrg
      have hgood := hid (errI_mem e12)
      have hdep := hid (show its ≠ [] → d < 2 from fun hne => e11 (Classical.byContradiction fun hq => hne (e9 hq)))
      clear e1 e2 e3 e4 e5 e6 e7 e8 e9 e11 e12 hbef ha' hb'
      have hA := hid hrd
      have hB := hid hrg
      clear hrd hrg
      have HC : Hid (∀ wi, Below wr.heap.size wr wi → wi.cell? ⟨(a.add (k * 4)).block, (a.add (k * 4)).off + 3, none⟩ = some (.slice ad2 its.length cap2) ∧ wi.cell? ⟨(b.add (k * 4)).block, (b.add (k * 4)).off + 3, none⟩ = some (.slice bd2 its.length cbp2) ∧
          RdI wi F n (.slice ad2 its.length cap2) its ∧ RdI wi G n (.slice bd2 its.length cbp2) its ∧ Below w.heap.size w wi) := fun wi hwi =>
        ⟨cell_keep (hwi.block _ (World.block_lt_of_cell? _ _ c3)) c3, cell_keep (hwi.block _ (World.block_lt_of_cell? _ _ g3)) g3, hA.out.up hwi, hB.out.up hwi, hup.out.trans (hwi.mono hup.out.size)⟩
      go_wp2_with fail
      go_quiet (fail)
      go_wp2_with fail
      go_loopw [6] (fun j wi => ∃ i : Nat, i ≤ its.length ∧ j = .int .i64 i ∧ Hid (Below wr.heap.size wr wi)) (fun j _ => its.length - (intOf j).toNat)
      case atStart => exact ⟨0, Nat.zero_le _, rfl, below_drewN (Below.refl _ _) _⟩
      case round =>
        obtain ⟨i, hi, rfl, hupi⟩ := hrel
        obtain ⟨i3, j3, hAi, hBi, hupw⟩ := HC.out _ hupi.out
        by_cases hil : i < its.length
        · obtain ⟨a2, ad3, cap3, rfl, _, k0, hrd5⟩ := hAi.at (List.getElem?_eq_getElem hil)
          obtain ⟨b2, bd3, cbp3, rfl, _, m0, hrg5⟩ := hBi.at (List.getElem?_eq_getElem hil)
          have hgk := hgood.out its[i] (List.getElem_mem hil)
          have hd2 := hdep.out (fun e => by rw [e] at hil; simp at hil)
          generalize its[i] = y at hrd5 hrg5 hgk k0 m0
          have hrd5' := hid hrd5
          have hrg5' := hid hrg5
          have hupw' := hid hupw
          clear hrd5 hrg5 hAi hBi hupw
          have q1 : ∀ q : Later wr, q.val.cell? ⟨(a.add (k * 4)).block, (a.add (k * 4)).off + 3, none⟩ = some (.slice (some a2) its.length cap2) := fun q => cell_keep (q.up.block _ (World.block_lt_of_cell? _ _ i3)) i3
          have q2 : ∀ q : Later wr, q.val.cell? ⟨(b.add (k * 4)).block, (b.add (k * 4)).off + 3, none⟩ = some (.slice (some b2) its.length cbp2) := fun q => cell_keep (q.up.block _ (World.block_lt_of_cell? _ _ j3)) j3
          have q3 : ∀ q : Later wr, q.val.cell? (a2.add i) = some (.slice ad3 y.length cap3) := fun q => cell_keep (q.up.block _ (World.block_lt_of_cell? _ _ k0)) k0
          have q4 : ∀ q : Later wr, q.val.cell? (b2.add i) = some (.slice bd3 y.length cbp3) := fun q => cell_keep (q.up.block _ (World.block_lt_of_cell? _ _ m0)) m0
          have hne : Nonempty (Later wr) := ⟨Later.of (Below.refl _ _)⟩
          go_wp2_with fail
          refine wp_region_below (by kernel_rfl) (by kernel_rfl) ?_
          repeat quiet_step ((go_at_call 19; exact calls_below (H F G _ _ _ y (d + 1) (hrd5'.out.up (Later.up _)) (hrg5'.out.up (Later.up _)) hgk (by omega) (by omega))))
          refine wpQuiet_nil ?_
          intro _ hw'
          obtain ⟨wq, rfl⟩ := hw'
          have hupq := hid (hupi.out.trans (wq.up.mono hupi.out.size))
          generalize wq.val = w4 at hupq ⊢
          clear q1 q2 q3 q4 hne
          go_wp2
          go_roundw
          case rel => exact ⟨i + 1, by omega, by go_num, hupq⟩
          case measure => simp [intOf]; omega
        · go_wp2
          go_roundw
          case rel => first | exact ⟨k + 1, by omega, by go_num, hupw⟩ | ((repeat apply Exists.intro); exact ⟨⟨k + 1, by omega, by go_num, hupw⟩, rfl⟩)
          case measure => simp [intOf]; omega
    · go_wp2
      go_ret
      exact ⟨rfl, hup.out⟩
theorem ksame_any : ∀ n, KS n
  | 0 => fun _ _ _ _ _ _ _ _ _ _ h1 h2 => absurd h2 (by omega)
  | n + 1 => ksame_succ n (ksame_any n)
end Go.Proofs.YtaokifbpakbgdaaDoor
