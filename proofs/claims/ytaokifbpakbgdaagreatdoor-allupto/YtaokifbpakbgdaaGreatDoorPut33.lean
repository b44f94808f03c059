/-
  Several texts in one; what each one has stands at its head.
-/
import Derived.Test.YtaokifbpakbgdaaGreatDoorPut32
import Derived.Test.YtaokifbpakbgdaaGreatDoorPut22
/- Package foliolaw on archives: found. -/
namespace Go.Proofs.YtaokifbpakbgdaaGreatDoor
open Go.RowKit

theorem fndL_len {A : List (List (El 3))} (hG : Good (n := 1) A) (s : By) : (fndL A s).length ≤ 48 := by
  unfold fndL
  split
  · exact Nat.zero_le _
  · split
    · split
      · exact Nat.zero_le _
      · unfold ansL
        rw [List.length_map, List.length_mergeSort]
        exact Nat.le_trans (namesF_len (n := 1) A _ _) hG.1
    · exact Nat.zero_le _
/-- How found ends. -/
def FoundEnd (w : World) (G : Nat → Prop) (wB : Nat) (pv lv : Value) (g : Nat) (e : Ending) (w' : World) : Prop := e = .returned (.bool true) ∧ ∃ lv' G', Lts w' G' wB lv' (g + 2) ∧ w'.heap[wB]? = some (.cells #[pv, lv'] 32 (0, 0)) ∧ (w'.os = w.os ∧ w'.tape = w.tape ∧ w'.output = w.output) ∧ w.heap.size ≤ w'.heap.size ∧
  (∀ j, j < w.heap.size → j ≠ wB → lv.ownBlock ≠ some j → w'.heap[j]? = w.heap[j]?) ∧ (∀ j, G' j → G j ∨ w.heap.size ≤ j) ∧ ∀ j, lv'.ownBlock = some j → lv.ownBlock = some j ∨ w.heap.size ≤ j
theorem found_end {w w3 w4 w5 : World} {G G1 : Nat → Prop} {wB : Nat} {pv lv lv1 va vc : Value} {g : Nat} {e5 e : Ending} (u3 : Below w.heap.size w w3) (ha : ∀ j, va.ownBlock = some j → w.heap.size ≤ j) (hc : ∀ j, vc.ownBlock = some j → w.heap.size ≤ j) (o1 : w4.os = w3.os ∧ w4.tape = w3.tape ∧ w4.output = w3.output) (z1 : w3.heap.size ≤ w4.heap.size)
    (k1 : ∀ j, j < w3.heap.size → j ≠ wB → va.ownBlock ≠ some j → lv.ownBlock ≠ some j → w4.heap[j]? = w3.heap[j]?) (g1 : ∀ j, G1 j → G j ∨ FrX w3 va j) (v1 : ∀ j, lv1.ownBlock = some j → lv.ownBlock = some j ∨ w3.heap.size ≤ j) (h5 : KeepEnd w4 G1 wB pv lv1 vc (g + 1) e5 w5) (he : e = .returned (.bool true)) : FoundEnd w G wB pv lv g e w5 := by
  obtain ⟨_, lv2, G2, l2, b2, o2, z2, k2, g2, v2⟩ := h5
  have z3 := u3.size
  refine ⟨he, lv2, G2, l2, b2, ⟨o2.1.trans (o1.1.trans u3.os), o2.2.1.trans (o1.2.1.trans u3.tape), o2.2.2.trans (o1.2.2.trans u3.output)⟩, by omega, fun j hj h1 h2 => ?_, fun j hj => ?_, fun j hj => ?_⟩
  · rw [k2 j (by omega) h1 (fun e => by have := hc j e; omega) (fun e => ?_), k1 j (by omega) h1 (fun e => by have := ha j e; omega) h2, u3.block j hj]
    rcases v1 j e with h | h
    · exact h2 h
    · omega
  · rcases g2 j hj with h | h
    · rcases g1 j h with h | h
      · exact Or.inl h
      · rcases h with h | h
        · exact Or.inr (ha j h)
        · exact Or.inr (by omega)
    · rcases h with h | h
      · exact Or.inr (hc j h)
      · exact Or.inr (by omega)
  · rcases v2 j hj with h | h
    · rcases v1 j h with h | h
      · exact Or.inl h
      · exact Or.inr (by omega)
    · exact Or.inr (by omega)
set_option maxRecDepth 20000 in
set_option maxHeartbeats 8000000 in
theorem lfound_any (w : World) (F G : Nat → Prop) (wB : Nat) (pv lv : Value) (g p a m b : Nat) (T : Int) (A : List (List (El 3))) (s : By) (hP : PairAt w p a b) (h1 : ProA w F 1 a m T A) (h2 : RefA w F 2 b A) (hF : ∀ j, F j → j < w.heap.size) (hG : Good (n := 1) A) (hV : NamesV w) (hLv : LevelsV w) (hC : CountsV w) (hv : Vars w)
    (hB : w.heap[wB]? = some (.cells #[pv, lv] 32 (0, 0))) (h : Lts w G wB lv g) (hg : g ≤ 900000000000) :
    Calls Tryz.prog 52 #[ptr wB, ptr p, .string (bs s)] w (FoundEnd w G wB pv lv g) := by
  have HP := hid hP
  have H1 := hid h1
  have H2 := hid h2
  have HF := hid hF
  have HG := hid hG
  have HV := hid hV
  have HLv := hid hLv
  have HC := hid hC
  have VV := hid hv
  have HB := hid hB
  have H := hid h
  have C1 := hid (Find_any F w a m T A s h1 hF hG hV hLv hC hv)
  have hLl := fndL_len hG s
  obtain ⟨p0, p1⟩ := hP.cells
  clear hP h1 h2 hF hG hV hLv hC hv hB h
  go_enter Tryz.func52, Tryz.ntmps52
  go_wp2_with fail
  go_at_call 36
  refine C1.out.mono ?_
  rintro e w1 ⟨va, rfl, u1, hra⟩
  have U1 := hid u1
  have RA := hid hra
  have C2 := hid (Find_any F w1 a m T A s (H1.out.up u1) (fun j hj => Nat.lt_of_lt_of_le (HF.out j hj) u1.size) HG.out (HV.out.up u1) (HLv.out.up u1) (HC.out.up u1) (VV.out.up u1))
  obtain ⟨p0, p1⟩ := (HP.out.keep (u1.block _ HP.out.lt)).cells
  clear u1 hra C1
  go_wp2_with fail
  go_at_call 36
  refine C2.out.mono ?_
  rintro e w2 ⟨vc, rfl, u2, hrc⟩
  have U2 := hid (U1.out.trans (u2.mono U1.out.size))
  have RC := hid hrc
  have z2 := u2.size
  have RA2 := hid (show StrRow w.heap.size w2 va (fndL A s) from ownsRow_keep RA.out (fun j hj => u2.block j (ownsRow_lt RA.out j hj)))
  have hal := hid (fun j (hj : va.ownBlock = some j) => (show w.heap.size ≤ j ∧ j < w1.heap.size from ⟨(RA.out.lt j hj).1, ownsRow_lt RA.out j (by simpa using hj)⟩))
  have C3 := hid (rFind_any F w2 b A s (RefA.up H2.out U2.out) (fun j hj => Nat.lt_of_lt_of_le (HF.out j hj) U2.out.size) HG.out)
  rw [fndR_eq HG.out s] at C3
  obtain ⟨p0, p1⟩ := (HP.out.keep (U2.out.block _ HP.out.lt)).cells
  clear u2 hrc C2 RA
  go_wp2_with fail
  go_at_call 102
  refine C3.out.mono ?_
  rintro e w3 ⟨vb, rfl, u3, hrb⟩
  have U3 := hid (U2.out.trans (u3.mono U2.out.size))
  have RB := hid hrb
  have z3 := u3.size
  have RA3 := hid (show StrRow w.heap.size w3 va (fndL A s) from ownsRow_keep RA2.out (fun j hj => u3.block j (ownsRow_lt RA2.out j hj)))
  have RC3 := hid (show StrRow w1.heap.size w3 vc (fndL A s) from ownsRow_keep RC.out (fun j hj => u3.block j (ownsRow_lt RC.out j hj)))
  have hcl := hid (fun j (hj : vc.ownBlock = some j) => (show w1.heap.size ≤ j ∧ j < w2.heap.size from ⟨(RC.out.lt j hj).1, ownsRow_lt RC.out j (by simpa using hj)⟩))
  obtain ⟨ada, capa, rfl⟩ := row_sl RA3.out
  obtain ⟨adc, capc, rfl⟩ := row_sl RC3.out
  obtain ⟨adb, capb, rfl⟩ := row_sl RB.out
  clear u3 hrb C3 RA2 RC p0 p1
  generalize fndE s = ee
  generalize fndL A s = L at RA3 RC3 RB hLl hal hcl ⊢
  go_wp2_with fail
  go_loopw [13] (fun i wr => ∃ k : Nat, k ≤ L.length ∧ i = .int .i64 k ∧ Hid (Below w3.heap.size w3 wr)) (fun i _ => L.length - (intOf i).toNat)
  case atStart => exact ⟨0, Nat.zero_le _, rfl, Below.refl _ _⟩
  case round =>
    obtain ⟨k, hk, rfl, hU⟩ := hrel
    have OA := hid (ownsRow_keep RA3.out (w' := wr) (fun j hj => hU.out.block j (ownsRow_lt RA3.out j hj)))
    have OC := hid (ownsRow_keep RC3.out (w' := wr) (fun j hj => hU.out.block j (ownsRow_lt RC3.out j hj)))
    by_cases hkl : k < L.length
    · obtain ⟨ga, ca, ea, da⟩ := str_at OA.out hkl
      obtain ⟨gc, cc, ec, dc⟩ := str_at OC.out hkl
      obtain ⟨gb, cb, eb, db⟩ := str_at (ownsRow_keep RB.out (w' := wr) (fun j hj => hU.out.block j (ownsRow_lt RB.out j hj))) hkl
      obtain ⟨rfl, _, rfl⟩ := Value.slice.inj ea
      obtain ⟨rfl, _, rfl⟩ := Value.slice.inj ec
      obtain ⟨rfl, _, rfl⟩ := Value.slice.inj eb
      have y1 := bs_toList L[k]
      generalize L[k] = t at da dc db y1
      clear ea ec eb OA OC
      go_wp2_with fail
      go_quiet (fail)
      go_wp2
      go_roundw
      case rel => exact ⟨k + 1, by omega, by go_num, below_drewN hU.out _⟩
      case measure => simp [intOf]; omega
    · have BB := hid (U3.out.trans (hU.out.mono U3.out.size))
      have hwl := lt_of_block HB.out
      have hlvl := hid (show ∀ j, lv.ownBlock = some j → j < w.heap.size from fun j hj => by obtain ⟨_, vals, q, _⟩ := H.out; exact ownsRow_lt q j (by simpa using hj))
      have hGl := hid (show ∀ j, G j → j < w.heap.size from by obtain ⟨_, _, _, _, _, _, q⟩ := H.out; exact q)
      have z1 := U1.out.size
      have zr := hU.out.size
      have C4 := hid (lkeep_any wr G wB pv lv (.slice ada L.length capa) g L.length _ ((BB.out.block _ hwl).trans HB.out) (H.out.up BB.out) (ownsRow_low OA.out) hLl (by omega) (fun j hj => by
        have h1 := hal.out j hj
        exact ⟨fun e => by have := hGl.out j e; omega, fun e => by omega, fun e => by have := hlvl.out j e; omega⟩))
      clear OA
      go_wp2_with fail
      go_at_call 103
      refine C4.out.mono ?_
      rintro e w4 hK
      obtain ⟨rfl, lv1, G1, l1, b1, o1, zz1, k1, g1, v1⟩ := hK
      have C5 := hid (lkeep_any w4 G1 wB pv lv1 (.slice adc L.length capc) (g + 1) L.length (L.map stW) b1 l1 (ownsRow_low (ownsRow_keep OC.out (fun j hj => by
        have hj2 : (Value.slice adc L.length capc).ownBlock = some j := by simpa using hj
        have h1 := hcl.out j hj2
        exact k1 j (by omega) (by omega) (fun e => by have := hal.out j e; omega) (fun e => by have := hlvl.out j e; omega)))) hLl (by omega) (fun j hj => by
        have h1 := hcl.out j hj
        refine ⟨fun e => ?_, by omega, fun e => ?_⟩
        · rcases g1 j e with h | h
          · have := hGl.out j h; omega
          · rcases h with h | h
            · have := hal.out j h; omega
            · omega
        · rcases v1 j e with h | h
          · have := hlvl.out j h; omega
          · omega))
      have O1 := hid o1
      have Z1 := hid zz1
      have K1 := hid k1
      have G1' := hid g1
      have V1 := hid v1
      clear l1 b1 o1 zz1 k1 g1 v1 C4
      go_wp2_with fail
      go_at_call 103
      refine C5.out.mono ?_
      rintro e w5 hK5
      have HK5 := hid hK5
      obtain ⟨rfl, _⟩ := hK5
      clear C5
      go_wp2
      go_ret
      exact found_end BB.out (fun j hj => (hal.out j hj).1) (fun j hj => by have := (hcl.out j hj).1; omega) O1.out Z1.out K1.out G1'.out V1.out HK5.out rfl
end Go.Proofs.YtaokifbpakbgdaaGreatDoor

/- Package foliolaw on archives: step, of every kind, with the lists that came out. -/
namespace Go.Proofs.YtaokifbpakbgdaaGreatDoor
open Go.RowKit

/-- What may turn, the row of the lists with it. -/
def Own2 (wB : Nat) (v : Value) (xs : List Sh) (lv : Value) (j : Nat) : Prop := Ownd wB v xs j ∨ lv.ownBlock = some j
def StL (w0 w : World) (F G : Nat → Prop) (wB : Nat) (v : Value) (xs : List Sh) (k : Nat) (lv : Value) (g : Nat) : Prop := St w0 w F wB v xs k ∧ Lts w G wB lv g ∧ (∀ j, G j ∨ lv.ownBlock = some j → ¬ Ownd wB v xs j ∧ ¬ F j ∧ w0.heap.size ≤ j) ∧ g ≤ 2 * k
/-- A step's end. -/
def StepL (w0 w : World) (wB : Nat) (v : Value) (xs : List Sh) (k : Nat) (lv : Value) (e : Ending) (w' : World) : Prop := e = .returned (.bool true) ∧ ∃ F' G' v' xs' lv' g', StL w0 w' F' G' wB v' xs' (k + 1) lv' g' ∧ 0 < xs'.length ∧ w.heap.size ≤ w'.heap.size ∧ (∀ j, j < w.heap.size → ¬ Own2 wB v xs lv j → w'.heap[j]? = w.heap[j]?) ∧ ∀ j, Own2 wB v' xs' lv' j → Own2 wB v xs lv j ∨ w.heap.size ≤ j
theorem StL.own_lt {w0 w : World} {F G : Nat → Prop} {wB : Nat} {v : Value} {xs : List Sh} {k : Nat} {lv : Value} {g : Nat} (h : StL w0 w F G wB v xs k lv g) : (∀ j, G j ∨ lv.ownBlock = some j → j < w.heap.size) ∧ w.heap[wB]? = some (.cells #[v, lv] 32 (0, 0)) := by
  obtain ⟨h1, ⟨c, vals, q1, _, _, _, q5⟩, _, _⟩ := h
  refine ⟨fun j hj => hj.elim (q5 j) (fun hj => ownsRow_lt q1 j (by simpa using hj)), ?_⟩
  obtain ⟨lv', hb⟩ := h1.2.1.1
  simp [World.cell?, hb] at c
  rw [hb, c]
/-- A step that leaves the lists alone. -/
theorem StepL.of {w0 w w' : World} {F G : Nat → Prop} {wB : Nat} {v : Value} {xs : List Sh} {k : Nat} {lv : Value} {g : Nat} {e : Ending} (h : StL w0 w F G wB v xs k lv g) (hs : StepEnd w0 w F wB v xs k e w') : StepL w0 w wB v xs k lv e w' := by
  have hlt := h.own_lt.1
  obtain ⟨h1, h2, h3, h4⟩ := h
  obtain ⟨he, F', v', xs', q1, ⟨z, q3, q4, q5⟩, q6, q7⟩ := hs
  refine ⟨he, F', G, v', xs', lv, g, ⟨q1, h2.keep z (q5 _ h2.1) (fun j hj => q3 j (hlt j hj) (h3 j hj).1), fun j hj => ⟨fun ho => ?_, fun hf => ?_, (h3 j hj).2.2⟩, by omega⟩, q6, z, fun j hj hn => q3 j hj (fun e => hn (Or.inl e)), fun j hj => ?_⟩
  · rcases q4 j ho with e | e
    · exact (h3 j hj).1 e
    · have := hlt j hj; omega
  · rcases q7 j hf with e | e
    · exact (h3 j hj).2.1 e
    · have := hlt j hj; omega
  · rcases hj with e | e
    · rcases q4 j e with e | e
      · exact Or.inl (Or.inl e)
      · exact Or.inr e
    · exact Or.inl (Or.inr e)
/-- A step that has asked. -/
theorem found_step {w0 w W w' : World} {F G : Nat → Prop} {wB : Nat} {v : Value} {xs : List Sh} {k : Nat} {lv : Value} {g : Nat} {e : Ending} (h : StL w0 w F G wB v xs k lv g) (u : Below w.heap.size w W) (hf : FoundEnd W G wB v lv g e w') : ∃ lv' G', e = .returned (.bool true) ∧ StL w0 w' F G' wB v xs (k + 1) lv' (g + 2) ∧ w.heap.size ≤ w'.heap.size ∧ (∀ j, j < w.heap.size → ¬ Own2 wB v xs lv j → w'.heap[j]? = w.heap[j]?) ∧ ∀ j, Own2 wB v xs lv' j → Own2 wB v xs lv j ∨ w.heap.size ≤ j := by
  obtain ⟨hlt, _⟩ := h.own_lt
  obtain ⟨h1, h2, h3, h4⟩ := h
  obtain ⟨he, lv', G', l1, b1, o1, z1, k1, g1, v1⟩ := hf
  obtain ⟨s1, s2, s3, s4, s5⟩ := h1
  have zu := u.size
  have hsame : ∀ j, j < w.heap.size → j ≠ wB → lv.ownBlock ≠ some j → w'.heap[j]? = w.heap[j]? := fun j hj e1 e2 => (k1 j (by omega) e1 e2).trans (u.block j hj)
  have hwB := s2.lt
  obtain ⟨⟨lv0, m1⟩, m2, m3, m4, m5⟩ := s2
  have hFl : ∀ j, F j → j ≠ wB ∧ lv.ownBlock ≠ some j := fun j hj => ⟨fun e => m3 (e ▸ hj), fun e => (h3 j (Or.inr e)).2.1 hj⟩
  have hml : ∀ j ∈ mutL xs, j ≠ wB ∧ lv.ownBlock ≠ some j := fun j hj => ⟨fun e => m4 (e ▸ hj), fun e => (h3 j (Or.inr e)).1 (Or.inr (Or.inr hj))⟩
  have hvl : ∀ j, v.ownBlock = some j → j ≠ wB ∧ lv.ownBlock ≠ some j := fun j hj => ⟨(m5 j hj).1, fun e => (h3 j (Or.inr e)).1 (Or.inr (Or.inl hj))⟩
  have hvlt : ∀ j, v.ownBlock = some j → j < w.heap.size := fun j hj => ownsRow_lt m2 j (by simpa using hj)
  have ho0 : ∀ j, Ownd wB v xs j → j < w.heap.size := fun j hj => by
    rcases hj with e | e | e
    · rw [e]; exact hwB
    · exact hvlt j e
    · exact (s3.2.1 j e).1
  refine ⟨lv', G', he, ⟨⟨?_, ⟨⟨lv', b1⟩, ownsRow_keep m2 (fun j hj => ?_), m3, m4, m5⟩, s3.keep (by omega) (fun j hj => ?_) (Nat.le_succ _), s4, by omega⟩, l1, fun j hj => ?_, by omega⟩, by omega, fun j hj hn => hsame j hj (fun e => hn (Or.inl (Or.inl e))) (fun e => hn (Or.inr e)), fun j hj => ?_⟩
  · have z0 := s1.size
    refine ⟨o1.1.trans (u.os.trans s1.os), o1.2.1.trans (u.tape.trans s1.tape), o1.2.2.trans (u.output.trans s1.output), by omega, fun j hj => ?_⟩
    rw [hsame j (by omega) (fun e => by have := s4 wB (Or.inl rfl); omega) (fun e => by have := (h3 j (Or.inr e)).2.2; omega), s1.block j hj]
  · have hj2 : v.ownBlock = some j := by simpa using hj
    exact hsame j (hvlt j hj2) (hvl j hj2).1 (hvl j hj2).2
  · rcases hj with hj | hj
    · exact hsame j (s3.2.2.1 j hj) (hFl j hj).1 (hFl j hj).2
    · exact hsame j (s3.2.1 j hj).1 (hml j hj).1 (hml j hj).2
  · have hor : (G j ∨ lv.ownBlock = some j) ∨ W.heap.size ≤ j := by
      rcases hj with hj | hj
      · exact (g1 j hj).imp Or.inl id
      · exact (v1 j hj).imp Or.inr id
    rcases hor with e | e
    · exact h3 j e
    · refine ⟨fun ho => ?_, fun hF => ?_, by have := s1.size; omega⟩
      · have := ho0 j ho; omega
      · have := s3.2.2.1 j hF; omega
  · rcases hj with e | e
    · exact Or.inl (Or.inl e)
    · rcases v1 j e with e | e
      · exact Or.inl (Or.inr e)
      · exact Or.inr (by omega)
set_option maxRecDepth 20000 in
set_option maxHeartbeats 4000000 in
theorem step_find (w0 w : World) (F G : Nat → Prop) (wB : Nat) (v : Value) (xs : List Sh) (k : Nat) (lv : Value) (gN : Nat) (ar : Int) (s : By) (h : StL w0 w F G wB v xs k lv gN) (hV : Vars w0) (hN : NamesV w0) (hLv : LevelsV w0) (hC : CountsV w0) (har : -9223372036854775808 ≤ ar ∧ ar ≤ 9223372036854775807) (hx : 0 < xs.length) (hkb : k ≤ 400000000000) :
    Calls Tryz.prog 17 #[ptr wB, opV 5 ar s] w (StepL w0 w wB v xs k lv) := by
  have HL := hid h
  have HBB := hid h.own_lt.2
  have H := hid h.1
  have HV := hid (hV.up h.1.1)
  have HN := hid (hN.up h.1.1)
  have HLv := hid (hLv.up h.1.1)
  have HC := hid (hC.up h.1.1)
  obtain ⟨c0, f0⟩ := h.1.2.1.cell
  have hlt := h.1.2.1.lt
  have hgN : gN ≤ 900000000000 := by have := h.2.2.2; omega
  clear h hV hN hLv hC
  have hl : xs.length ≤ 8796093022208 := Nat.le_trans H.out.2.2.2.2 (by omega)
  have hpb := pkL_bd (k := ar) (n := xs.length) (by omega)
  obtain ⟨q, hq⟩ : ∃ q : Nat, pkL ar xs.length = q := ⟨(pkL ar xs.length).toNat, (Int.toNat_of_nonneg hpb.1).symm⟩
  have hql : q < xs.length := by omega
  obtain ⟨g, cap, rfl, cq⟩ := H.out.2.1.at hql
  have hgl : g < w.heap.size := World.block_lt_of_cell? _ _ cq
  have c1 := fun W => lpick_any ar xs.length W har.1 har.2 (by omega) (by omega)
  rw [hq] at c1
  have C1 := hid c1
  have hO := H.out.2.2.1.2.2.2 _ (List.getElem_mem hql)
  have hF := H.out.2.2.1.2.2.1
  generalize hX : xs[q] = x at cq hO
  have HX := hid hX
  have HO := hid hO
  have HF := hid hF
  clear hX hO hF hpb hq c1
  go_enter Tryz.func17, Tryz.ntmps17
  go_wp2_with fail
  go_quiet ((go_at_call 47; exact Calls.quiet_of_same (C1.out _)))
  have u1 : Below w.heap.size w ((w.alloc (Obj.cells #[Value.int IntKind.i64 5, Value.int IntKind.i64 ar, Value.string (bs s)] 34)).drewN nq) := below_drewN (Below.alloc (Below.refl _ _) (Nat.le_refl _) _) _
  have U1 := hid u1
  clear u1
  go_wp2_with fail
  go_at_call 52
  obtain ⟨p1, p2, p3, p4, p5, _⟩ := HO.out.keep (F' := F) (k' := k) (fun _ h => h) (fun j hj => U1.out.block j (HF.out j hj)) (fun j hj => U1.out.block j (H.out.2.2.1.2.1 j (mut_mem (List.getElem_mem hql) (by rw [HX.out]; exact hj))).1) (Nat.le_refl _)
  refine (lfound_any _ F G wB _ lv gN _ _ _ _ _ _ s p1 p3 p4 (fun j hj => Nat.lt_of_lt_of_le (HF.out j hj) U1.out.size) p5 (HN.out.up U1.out) (HLv.out.up U1.out) (HC.out.up U1.out) (HV.out.up U1.out) ((U1.out.block _ hlt).trans HBB.out) (HL.out.2.1.up U1.out) hgN).mono ?_
  rintro e w2 hfe
  obtain ⟨lv', G', rfl, f1, f2, f3, f4⟩ := found_step HL.out U1.out hfe
  have F1 := hid f1
  have F2 := hid f2
  have F3 := hid f3
  have F4 := hid f4
  clear hfe f1 f2 f3 f4 p1 p2 p3 p4 p5
  go_wp2
  go_ret
  exact ⟨rfl, F, G', _, xs, lv', gN + 2, F1.out, hx, F2.out, F3.out, F4.out⟩
theorem lstep_any (w0 w : World) (F G : Nat → Prop) (wB : Nat) (v : Value) (xs : List Sh) (k : Nat) (lv : Value) (gN : Nat) (kd ar : Int) (s : By) (h : StL w0 w F G wB v xs k lv gN) (hV : Vars w0) (hN : NamesV w0) (hLv : LevelsV w0) (hC : CountsV w0) (hkd : -9223372036854775808 ≤ kd ∧ kd ≤ 9223372036854775807) (har : -9223372036854775808 ≤ ar ∧ ar ≤ 9223372036854775807) (hs : s.length ≤ 9223372036854775807) (hne : kd = 1 ∨ 0 < xs.length) (hkb : k ≤ 400000000000) :
    Calls Tryz.prog 17 #[ptr wB, opV kd ar s] w (StepL w0 w wB v xs k lv) := by
  by_cases h5 : kd = 5
  · subst h5
    exact step_find w0 w F G wB v xs k lv gN ar s h hV hN hLv hC har (hne.resolve_left (by decide)) hkb
  · exact (step_any w0 w F wB v xs k kd ar s h.1 hV hN hkd har hs h5 hne (by omega)).mono (fun e w' hs => StepL.of h hs)
end Go.Proofs.YtaokifbpakbgdaaGreatDoor

/- Package foliolaw on archives: all, UpTo, All. -/
namespace Go.Proofs.YtaokifbpakbgdaaGreatDoor
open Go.RowKit

theorem all_any (w : World) : Calls Tryz.prog 55 #[] w fun e w' => ∃ s : By, e = .returned (.string (bs s)) ∧ s.length ≤ 274877906944 ∧ Below w.heap.size w w' := by
  have H := hid (fun T => els_at w T [(524370, [67, 83], [80, 65, 84, 73, 69, 78, 84]), (1048592, [80, 78], []), (1048608, [76, 79], []), (2101760, [73, 83], [])] 2 (fun j => j = w.heap.size) rfl 4)
  go_enter Tryz.func55, Tryz.ntmps55
  go_wp2_with fail
  go_at_call 45
  have hle := hid (show (wrS false 0 3 ([(524370, [67, 83], [80, 65, 84, 73, 69, 78, 84]), (1048592, [80, 78], []), (1048608, [76, 79], []), (2101760, [73, 83], [])].map (mkEl 2))).length ≤ 274877906944 by decide)
  refine (rEncode_any 3 (by omega) _ _ _ _ (H.out _) hle.out).mono ?_
  rintro e w' ⟨u, h⟩
  have U := hid u
  rcases h with ⟨_, rfl⟩ | ⟨_, rfl⟩
  · go_wp2
    go_ret
    exact ⟨_, rfl, by simp, (Below.alloc (Below.refl _ _) (Nat.le_refl _) _).trans (U.out.mono (by simp))⟩
  · clear u
    generalize wrS false 0 3 _ = t at hle ⊢
    go_wp2
    go_ret
    exact ⟨_, rfl, hle.out, (Below.alloc (Below.refl _ _) (Nat.le_refl _) _).trans (U.out.mono (by simp))⟩
/-- Between two steps. -/
def LpL (w : World) (wB fB : Nat) (fO : Obj) (k : Nat) (wr : World) : Prop := ∃ F G v xs lv g, StL w wr F G wB v xs k lv g ∧ ¬ Own2 wB v xs lv fB ∧ wr.heap[fB]? = some fO ∧ (k = 0 ∨ 0 < xs.length)
abbrev fstL (s0 s1 : By) : Obj := .cells #[.int .i64 1, .int .i64 0, .string ⟨#[]⟩, .int .i64 2, .int .i64 0, .string (bs s0), .int .i64 5, .int .i64 0, .string (bs s1)] 34 (0, 0)
theorem StL.up {w0 w w' : World} {F G : Nat → Prop} {wB : Nat} {v : Value} {xs : List Sh} {k k' : Nat} {lv : Value} {g : Nat} (h : StL w0 w F G wB v xs k lv g) (u : Below w.heap.size w w') (hk : k ≤ k') : StL w0 w' F G wB v xs k' lv g := ⟨h.1.up u hk, h.2.1.up u, h.2.2.1, by have := h.2.2.2; omega⟩
theorem LpL.start {w W : World} {fB : Nat} {fO : Obj} (u : Below w.heap.size w W) (hB : W.heap[w.heap.size]? = some (.cells #[.slice none 0 0, .slice none 0 0] 32 (0, 0))) (hf : W.heap[fB]? = some fO) (hne : fB ≠ w.heap.size) : LpL w w.heap.size fB fO 0 W := by
  refine ⟨fun _ => False, fun _ => False, .slice none 0 0, [], .slice none 0 0, 0, ⟨⟨u, ⟨⟨_, hB⟩, World.ownsRow_nil _ _ _ _, id, (fun h => by cases h), (fun j hj => by cases hj)⟩, ⟨List.nodup_nil, (fun j hj => by cases hj), (fun j hj => hj.elim), (fun x hx => by cases hx)⟩, (fun j hj => by rcases hj with e | e | e <;> first | (subst e; exact Nat.le_refl _) | cases e), Nat.le_refl _⟩, ⟨by simp [World.cell?, hB], [], World.ownsRow_nil _ _ _ _, (fun i v hv => by simp at hv), (fun j hj => by cases hj), id, (fun j hj => hj.elim)⟩, (fun j hj => by rcases hj with e | e <;> cases e), Nat.le_refl _⟩, fun h => ?_, hf, .inl rfl⟩
  rcases h with e | e
  · rcases e with e | e | e <;> first | exact hne e | cases e
  · cases e
theorem LpL.up {w wr W : World} {wB fB k : Nat} {fO : Obj} (h : LpL w wB fB fO k wr) (u : Below wr.heap.size wr W) : LpL w wB fB fO k W := by
  obtain ⟨F, G, v, xs, lv, g, h1, h2, h3, h4⟩ := h
  exact ⟨F, G, v, xs, lv, g, h1.up u (Nat.le_refl _), h2, (u.block _ (lt_of_block h3)).trans h3, h4⟩
/-- The variables of the packages lie there. -/
def VarsL (w : World) : Prop := Vars w ∧ NamesV w ∧ LevelsV w ∧ CountsV w
theorem LpL.step {w wr : World} {wB fB k : Nat} {fO : Obj} (h : LpL w wB fB fO k wr) (hV : VarsL w) {kd ar : Int} {s : By} (hok : OkOp (kd, ar, s)) (h1 : k = 0 → kd = 1) (hk : k ≤ 400000000000) :
    Calls Tryz.prog 17 #[ptr wB, opV kd ar s] wr fun e w' => e = .returned (.bool true) ∧ LpL w wB fB fO (k + 1) w' := by
  obtain ⟨F, G, v, xs, lv, g, g1, g2, g3, g4⟩ := h
  refine (lstep_any w wr F G wB v xs k lv g kd ar s g1 hV.1 hV.2.1 hV.2.2.1 hV.2.2.2 hok.1 hok.2.1 hok.2.2 (g4.imp h1 id) hk).mono ?_
  rintro e w' ⟨he, F', G', v', xs', lv', g', q1, q2, q3, q4, q5⟩
  have hlt := lt_of_block g3
  refine ⟨he, F', G', v', xs', lv', g', q1, fun e => ?_, (q4 fB hlt g2).trans g3, .inr q2⟩
  rcases q5 fB e with e | e
  · exact g2 e
  · omega
theorem LpL.whole {w wr : World} {wB fB k : Nat} {fO : Obj} (h : LpL w wB fB fO k wr) (hk : k ≤ 400000000000) :
    Calls Tryz.prog 56 #[ptr wB] wr fun e w' => e = .returned (.bool true) ∧ LpL w wB fB fO k w' := by
  have h0 := h
  obtain ⟨F, G, v, xs, lv, g, g1, _⟩ := h0
  exact (lwhole_any wr G wB lv g g1.2.1 (by have := g1.2.2.2; omega)).mono (fun e w' hh => ⟨hh.1, h.up hh.2⟩)
theorem fstL_at {w : World} {fB k : Nat} {s0 s1 : By} (hs : s0.length ≤ 274877906944) (hs1 : s1.length ≤ 274877906944) (h : w.heap[fB]? = some (fstL s0 s1)) (hk : k < 3) : ∃ kd ar s, (w.cell? ⟨fB, k * 3, none⟩ = some (.int .i64 kd) ∧ w.cell? ⟨fB, k * 3 + 1, none⟩ = some (.int .i64 ar) ∧ w.cell? ⟨fB, k * 3 + 2, none⟩ = some (.string (bs s))) ∧ OkOp (kd, ar, s) ∧ (k = 0 → kd = 1) := by
  rcases (show k = 0 ∨ k = 1 ∨ k = 2 by omega) with rfl | rfl | rfl
  · exact ⟨1, 0, [], by simp [World.cell?, h, bs], ⟨by simp, by simp, by simp⟩, fun _ => rfl⟩
  · exact ⟨2, 0, s0, by simp [World.cell?, h], ⟨by simp, by simp, by simp only; omega⟩, (fun h => by cases h)⟩
  · exact ⟨5, 0, s1, by simp [World.cell?, h], ⟨by simp, by simp, by simp only; omega⟩, (fun h => by cases h)⟩
set_option maxRecDepth 20000 in
set_option maxHeartbeats 8000000 in
theorem UpTo_any (w : World) (v : Value) (l : List Opn) (h : Scr w v l) (hl2 : l.length ≤ 100000000000) (hV : VarsL w) :
    Calls Tryz.prog 19 #[v] w fun e w' => e = .returned (.int .i64 (-1)) ∧ Below w.heap.size w w' := by
  obtain ⟨⟨ad, cap, rfl, hat⟩, hok, hl⟩ := h
  have HA := hid hat
  have HO := hid hok
  have HV := hid hV
  clear hat hok hV
  go_enter Tryz.func19, Tryz.ntmps19
  go_wp2_with fail
  go_at_call 16
  refine (simple_any _).mono ?_
  rintro e w2 ⟨s0, rfl, hs0, u2⟩
  have U2 := hid u2
  clear u2
  go_wp2_with fail
  go_at_call 55
  refine (all_any _).mono ?_
  rintro e w3 ⟨s1, rfl, hs1, u3⟩
  have u3' : Below w.heap.size w w3 := ((Below.alloc (Below.refl _ _) (Nat.le_refl _) _).trans (U2.out.mono (by simp))).trans (u3.mono (by have := U2.out.size; rw [World.size_alloc] at this; omega))
  have hwB : w3.heap[w.heap.size]? = some (.cells #[.slice none 0 0, .slice none 0 0] 32 (0, 0)) := (u3.block _ (by have := U2.out.size; rw [World.size_alloc] at this; omega)).trans ((U2.out.block _ (by simp)).trans (heap_alloc_new _ _))
  have hz3 : w.heap.size + 1 ≤ w3.heap.size := by have := U2.out.size; rw [World.size_alloc] at this; have := u3.size; omega
  have L0 := hid (LpL.start (fB := w3.heap.size) (fO := fstL s0 s1) (Below.alloc u3' u3'.size (fstL s0 s1)) ((Below.heap_alloc _ _ _ (by omega)).trans hwB) (heap_alloc_new _ _) (by omega))
  clear u3 u3' hwB U2
  go_wp2_with fail
  go_loopw [5] (fun i wr => ∃ k : Nat, k ≤ 3 ∧ i = .int .i64 k ∧ Hid (LpL w w.heap.size w3.heap.size (fstL s0 s1) k wr)) (fun i _ => 3 - (intOf i).toNat)
  case atStart => exact ⟨0, Nat.zero_le _, rfl, L0⟩
  case round =>
    obtain ⟨k, hk, rfl, hLp⟩ := hrel
    by_cases hk3 : k < 3
    · obtain ⟨F, G, v, xs, lv, g, q1, q2, q3, q4⟩ := hLp.out
      obtain ⟨kd, ar, s, ⟨g0, g1, g2⟩, hok, hk1⟩ := fstL_at hs0 hs1 q3 hk3
      have HK := hid hok
      have HK1 := hid hk1
      clear q1 q2 q3 q4 hok hk1
      go_wp2_with fail
      go_at_call 17
      refine (hLp.out.step HV.out HK.out HK1.out (by omega)).mono ?_
      rintro e w4 ⟨rfl, hL3⟩
      have HL3 := hid hL3
      clear hL3 g0 g1 g2
      go_wp2
      go_roundw
      case rel => exact ⟨k + 1, by omega, by go_num, HL3⟩
      case measure => simp [intOf]; omega
    · have HL0 : Hid (LpL w w.heap.size w3.heap.size (fstL s0 s1) (3 + 0) wr) := by
        have hk3e : k = 3 := by omega
        rw [hk3e] at hLp
        exact hLp
      clear hLp
      obtain ⟨wA, rfl⟩ : ∃ wA, wA = wr := ⟨_, rfl⟩
      go_wp2_with fail
      go_loopw [7] (fun i wr => ∃ j : Nat, j ≤ l.length ∧ i = .int .i64 j ∧ Hid (LpL w w.heap.size w3.heap.size (fstL s0 s1) (3 + j) wr)) (fun i _ => l.length - (intOf i).toNat)
      case atStart => exact ⟨0, Nat.zero_le _, rfl, HL0⟩
      case round =>
        obtain ⟨j, hj, rfl, hLq⟩ := hrel
        by_cases hjl : j < l.length
        · obtain ⟨a, rfl, hab, o0, o1, o2⟩ := HA.out j l[j] (List.getElem?_eq_getElem hjl)
          have HK := hid (HO.out _ (List.getElem_mem hjl))
          obtain ⟨F, G, v, xs, lv, g, q1, q2, q3, q4⟩ := hLq.out
          have q10 := q1.1.1
          rw [Nat.mul_comm] at o0 o1 o2
          have g0 : wr.cell? (a.add (j * 3)) = some (.int .i64 (l[j]).1) := cell_keep (q10.block _ (by rw [add_block]; exact hab)) o0
          have g1 : wr.cell? ⟨(a.add (j * 3)).block, (a.add (j * 3)).off + 1, none⟩ = some (.int .i64 (l[j]).2.1) := cell_keep (p := ⟨(a.add (j * 3)).block, (a.add (j * 3)).off + 1, none⟩) (q10.block _ (show (a.add (j * 3)).block < _ by rw [add_block]; exact hab)) o1
          have g2 : wr.cell? ⟨(a.add (j * 3)).block, (a.add (j * 3)).off + 2, none⟩ = some (.string (bs (l[j]).2.2)) := cell_keep (p := ⟨(a.add (j * 3)).block, (a.add (j * 3)).off + 2, none⟩) (q10.block _ (show (a.add (j * 3)).block < _ by rw [add_block]; exact hab)) o2
          clear q1 q10 q2 q3 q4 o0 o1 o2
          generalize l[j] = x at g0 g1 g2 HK
          obtain ⟨kd, ar, s⟩ := x
          simp only at g0 g1 g2
          go_wp2_with fail
          go_at_call 17
          refine (hLq.out.step HV.out HK.out (fun h => by omega) (by omega)).mono ?_
          rintro e w4 ⟨rfl, hL4⟩
          have HL4 := hid hL4
          clear hL4 g0 g1 g2
          go_wp2_with fail
          go_at_call 56
          refine (HL4.out.whole (by omega)).mono ?_
          rintro e w5 ⟨rfl, hL5⟩
          have HL5 := hid hL5
          clear hL5
          go_wp2
          go_roundw
          case rel => exact ⟨j + 1, by omega, by go_num, HL5⟩
          case measure => simp [intOf]; omega
        · obtain ⟨F, G, v, xs, lv, g, q1, q2, q3, q4⟩ := hLq.out
          have hx : 0 < xs.length := q4.resolve_left (by omega)
          have hlen : xs.length ≤ 3 + l.length := Nat.le_trans q1.1.2.2.2.2 (by omega)
          obtain ⟨gP, cp, hvP, _⟩ := q1.1.2.1.at hx
          have Q1 := hid q1
          clear q1 q2 q3 q4 hLq
          obtain ⟨wC, rfl⟩ : ∃ wC, wC = wr := ⟨_, rfl⟩
          go_wp2_with fail
          go_loopw [9] (fun i wq => ∃ (q : Nat) (G' : Nat → Prop) (lv' : Value) (g' : Nat), q ≤ xs.length ∧ i = .int .i64 q ∧ Hid (StL w wq F G' w.heap.size v xs (3 + l.length + q) lv' g')) (fun i _ => xs.length - (intOf i).toNat)
          case atStart => exact ⟨0, G, lv, g, Nat.zero_le _, rfl, by unfold Hid; rw [show 3 + l.length + 0 = 3 + l.length by omega]; exact Q1.out.up (Below.refl _ _) (by omega)⟩
          case round =>
            obtain ⟨q, G', lv', g', hq, rfl, hS⟩ := hrel
            subst hvP
            obtain ⟨c0, _⟩ := hS.out.1.2.1.cell
            by_cases hql : q < xs.length
            · obtain ⟨gB, cB, hvB, cq⟩ := hS.out.1.2.1.at hql
              obtain ⟨eB, _, rfl⟩ := Value.slice.inj hvB
              cases eB
              obtain ⟨p1, p2, p3, p4, p5, _⟩ := hS.out.1.2.2.1.2.2.2 _ (List.getElem_mem hql)
              have hFl := hid hS.out.1.2.2.1.2.2.1
              have C1 := hid (counted_any F wr _ _ _ _ _ _ p1 p3 p4 hFl.out p5 p5.short (HV.out.2.1.up hS.out.1.1))
              have HP := hid (And.intro p1 (And.intro p3 (And.intro p4 p5)))
              clear p1 p2 p3 p4 p5
              generalize xs[q] = x at cq C1 HP
              go_wp2_with fail
              go_at_call 18
              refine C1.out.mono ?_
              rintro e w4 ⟨rfl, u4⟩
              have d0 := (u4.cell (World.block_lt_of_cell? _ _ c0)).trans c0
              have dq := (u4.cell (World.block_lt_of_cell? _ _ cq)).trans cq
              have U4 := hid u4
              clear u4 C1 c0 cq
              go_wp2_with fail
              go_region_with (first
                | (go_at_call 55
                   refine (all_any _).mono ?_
                   rintro e w5 ⟨sA, rfl, hsA, u5⟩
                   have U5 := hid (show Below wr.heap.size wr w5 from U4.out.drew.trans (u5.mono U4.out.drew.size))
                   have e0 := (Below.cell u5 (World.block_lt_of_cell? _ _ d0)).trans d0
                   have eq := (Below.cell u5 (World.block_lt_of_cell? _ _ dq)).trans dq
                   have SU := hid (hS.out.up U5.out (Nat.le_refl _))
                   have C5 := hid (lfound_any w5 F G' w.heap.size _ lv' g' _ _ _ _ _ _ sA (HP.out.1.keep (U5.out.block _ HP.out.1.lt)) (HP.out.2.1.up U5.out) (RefA.up HP.out.2.2.1 U5.out) (fun j hj => Nat.lt_of_lt_of_le (hFl.out j hj) U5.out.size) HP.out.2.2.2 (HV.out.2.1.up SU.out.1.1) (HV.out.2.2.1.up SU.out.1.1) (HV.out.2.2.2.up SU.out.1.1) (HV.out.1.up SU.out.1.1) SU.out.own_lt.2 SU.out.2.1 (by have := hS.out.2.2.2; omega))
                   clear u5)
                | (go_at_call 52
                   refine C5.out.mono ?_
                   rintro e w6 hfe
                   obtain ⟨lv6, G6, rfl, f1, _⟩ := found_step hS.out U5.out hfe
                   have F1 := hid f1
                   clear hfe f1))
              all_goals
                go_wp2
                go_roundw
                case rel => exact ⟨q + 1, G6, lv6, g' + 2, by omega, by go_num, F1⟩
                case measure => simp [intOf]; omega
            · have C7 := hid (lwhole_any wr G' w.heap.size lv' g' hS.out.2.1 (by have := hS.out.2.2.2; omega))
              go_wp2_with fail
              go_at_call 56
              refine C7.out.mono ?_
              rintro e w7 ⟨rfl, u7⟩
              have U7 := hid (hS.out.1.1.trans (u7.mono hS.out.1.1.size))
              clear u7 C7
              go_wp2
              go_ret
              exact ⟨rfl, U7.out⟩
theorem All_any (w : World) (v : Value) (l : List Opn) (h : Scr w v l) (hl2 : l.length ≤ 100000000000) (hV : VarsL w) :
    Calls Tryz.prog 5 #[v] w fun e w' => e = .returned (.bool true) ∧ Below w.heap.size w w' := by
  have C := hid (UpTo_any w v l h hl2 hV)
  clear h hV
  go_enter Tryz.func5, Tryz.ntmps5
  go_wp2_with fail
  go_at_call 19
  refine C.out.mono ?_
  rintro e w1 ⟨rfl, u1⟩
  have U1 := hid u1
  clear u1 C
  go_wp2
  go_ret
  exact ⟨rfl, U1.out⟩
end Go.Proofs.YtaokifbpakbgdaaGreatDoor

/- What the frames of All, Told, Filtered, Counts share: the words of the levels and the rows that are counted, from the listed variables; a short script. -/
namespace Go.Proofs.YtaokifbpakbgdaaGreatDoor
open Go.ChangeShapes Go.WideShapes Go.ChangeAt Go.RowKit

theorem g_levels : Tryz.prog.globalNamed "folio/archive.levels" = some 0 := by kernel_rfl
theorem t_levels : (Tryz.prog.globals[0]?).map (·.type) = some 58 := by kernel_rfl
theorem cellsA_levels : Tryz.prog.cellsOf 58 = 4 := by kernel_rfl
theorem g_counts : Tryz.prog.globalNamed "folio/archive.counts" = some 2 := by kernel_rfl
theorem t_counts : (Tryz.prog.globals[2]?).map (·.type) = some 217 := by kernel_rfl
theorem cellsA_counts : Tryz.prog.cellsOf 217 = 3 := by kernel_rfl
theorem levels_trod {W : World} {cs : Array Value} {fuel : Nat} {p : List MemPlace} (hv : W.var? Tryz.prog "folio/archive.levels" = some cs) (hd : DataW.trod (fun _ => ()) Tryz.prog W 0 (fun _ => true) false fuel 58 cs.toList = some (Rows.laid_folio_archive_levels, p)) : LevelsV W := by
  obtain ⟨l⟩ := cs
  have hl : l.length = 4 := by
    obtain ⟨_, _, _, _, hcl, _⟩ := DataW.trod_array Tryz.underlying58 hd
    rw [cellsA_levels] at hcl
    exact hcl
  obtain ⟨c0, c1, c2, c3, rfl⟩ := list4A hl
  obtain ⟨y0, y1, y2, y3, n, hx, f0, f1, f2, f3⟩ := trod_array4 Tryz.underlying58 cellsA_str hd
  obtain ⟨z0, e0, rfl, _⟩ := DataW.trod_string Tryz.underlying9 f0
  obtain ⟨z1, e1, rfl, _⟩ := DataW.trod_string Tryz.underlying9 f1
  obtain ⟨z2, e2, rfl, _⟩ := DataW.trod_string Tryz.underlying9 f2
  obtain ⟨z3, e3, rfl, _⟩ := DataW.trod_string Tryz.underlying9 f3
  obtain ⟨⟨z0⟩⟩ := z0
  obtain ⟨⟨z1⟩⟩ := z1
  obtain ⟨⟨z2⟩⟩ := z2
  obtain ⟨⟨z3⟩⟩ := z3
  simp [Rows.laid_folio_archive_levels] at hx
  obtain ⟨⟨rfl, rfl, rfl, rfl⟩, _⟩ := hx
  simp at e0 e1 e2 e3
  subst e0; subst e1; subst e2; subst e3
  intro i hi
  have h := World.var?_cell g_levels hv i
  rcases (show i = 0 ∨ i = 1 ∨ i = 2 ∨ i = 3 by omega) with rfl | rfl | rfl | rfl <;> simpa [wordL, bs] using h
theorem counts_trod {W : World} {cs : Array Value} {fuel : Nat} {p : List MemPlace} (hv : W.var? Tryz.prog "folio/archive.counts" = some cs) (hd : DataW.trod (fun _ => ()) Tryz.prog W 0 (fun _ => true) false fuel 217 cs.toList = some (Rows.laid_folio_archive_counts, p)) : CountsV W := by
  obtain ⟨l⟩ := cs
  have hl : l.length = 3 := by
    obtain ⟨_, _, _, _, hcl, _⟩ := DataW.trod_array Tryz.underlying217 hd
    rw [cellsA_counts] at hcl
    exact hcl
  obtain ⟨c0, c1, c2, rfl⟩ := list3A hl
  obtain ⟨y0, y1, y2, n, hx, f0, f1, f2⟩ := trod_array3 Tryz.underlying217 cellsA_int hd
  obtain ⟨z0, e0, rfl, _⟩ := DataW.trod_int Tryz.underlying3 f0
  obtain ⟨z1, e1, rfl, _⟩ := DataW.trod_int Tryz.underlying3 f1
  obtain ⟨z2, e2, rfl, _⟩ := DataW.trod_int Tryz.underlying3 f2
  simp [Rows.laid_folio_archive_counts] at hx
  obtain ⟨⟨rfl, rfl, rfl⟩, _⟩ := hx
  simp at e0 e1 e2
  subst e0; subst e1; subst e2
  intro i hi
  have h := World.var?_cell g_counts hv i
  rcases (show i = 0 ∨ i = 1 ∨ i = 2 by omega) with rfl | rfl | rfl <;> simpa [cntT] using h
theorem levelsA_of {W : World} (h : laidMetH Tryz.prog Rows.shelvesRow.laid W) : LevelsV W := by
  rw [MakeChecks.laidMetH_plain _ _ _ (by kernel_rfl)] at h
  obtain ⟨ps, ⟨_, _, _, _, _, _, _, _, _, _, ⟨_, _, _, _, _, _, _, _, _, _, ⟨_, _, _, _, _, _, _, _, _, _, ⟨_, _, _, _, _, _, _, _, _, _, ⟨_, _, _, _, _, _, _, _, _, _, ⟨_, _, _, _, _, _, _, _, _, _, ⟨g, t, cs, fuel, p, q, hg, ht, hv, hd, _, _⟩, _⟩, _⟩, _⟩, _⟩, _⟩, _⟩, _, _⟩ := h
  obtain rfl := Option.some.inj (g_levels.symm.trans hg)
  obtain rfl := Option.some.inj (t_levels.symm.trans ht)
  exact levels_trod hv hd
theorem countsA_of {W : World} (h : laidMetH Tryz.prog Rows.shelvesRow.laid W) : CountsV W := by
  rw [MakeChecks.laidMetH_plain _ _ _ (by kernel_rfl)] at h
  obtain ⟨ps, ⟨_, _, _, _, _, _, _, _, _, _, ⟨_, _, _, _, _, _, _, _, _, _, ⟨_, _, _, _, _, _, _, _, _, _, ⟨_, _, _, _, _, _, _, _, _, _, ⟨_, _, _, _, _, _, _, _, _, _, ⟨_, _, _, _, _, _, _, _, _, _, ⟨_, _, _, _, _, _, _, _, _, _, ⟨_, _, _, _, _, _, _, _, _, _, ⟨g, t, cs, fuel, p, q, hg, ht, hv, hd, _, _⟩, _⟩, _⟩, _⟩, _⟩, _⟩, _⟩, _⟩, _⟩, _, _⟩ := h
  obtain rfl := Option.some.inj (g_counts.symm.trans hg)
  obtain rfl := Option.some.inj (t_counts.symm.trans ht)
  exact counts_trod hv hd
theorem varsL_of {W : World} (h : laidMetH Tryz.prog Rows.shelvesRow.laid W) (hsh : W.ShapedOpen Tryz.prog) : VarsL W := ⟨varsA_of h hsh, namesA_of h, levelsA_of h, countsA_of h⟩
theorem bulkA_one {H : Type} (d : DataW H) : 1 ≤ Rows.uptoBulk d := by
  cases d with
  | lit x => cases x <;> simp [Rows.uptoBulk]
  | _ => simp [Rows.uptoBulk]
theorem bulkA_all {H : Type} : ∀ l : List (DataW H), l.length ≤ Rows.uptoBulkAll l
  | [] => by simp
  | d :: r => by
    have := bulkA_all r
    have := bulkA_one d
    simp only [List.length_cons, Rows.uptoBulkAll]
    omega
set_option maxRecDepth 20000 in
theorem script_short {H : Type} {enc : TypeId × Value → H} {W : World} {fuel n c : Nat} {ad : Option Addr} {d : DataW H} {q : List MemPlace} (h : DataW.trod enc Tryz.prog W 0 (fun _ => true) true fuel 27 [.slice ad n c] = some (d, q)) : n ≤ Rows.uptoBulk d := by
  rcases DataW.trod_slice Tryz.underlying27 h with ⟨hcs, hx⟩ | ⟨a, len, cap, elems, rest, m, rfl, hcs, hx, _, hlc, hcm, hlen, hel, _, _⟩
  · simp only [List.cons.injEq, and_true, Value.slice.injEq] at hcs
    obtain ⟨_, rfl, _⟩ := hcs
    exact Nat.zero_le _
  · simp only [Prod.mk.injEq] at hx
    obtain ⟨rfl, _⟩ := hx
    simp only [List.cons.injEq, and_true, Value.slice.injEq] at hcs
    obtain ⟨_, rfl, _⟩ := hcs
    have := bulkA_all (elems.map (·.1))
    simp only [List.length_map] at this
    simp only [Rows.uptoBulk]
    omega
end Go.Proofs.YtaokifbpakbgdaaGreatDoor
