/-
  Several texts in one; what each one has stands at its head.
-/
import Derived.Test.YtaokifbpakbgdabGreatDoorPut18
import Derived.Test.YtaokifbpakbgdabGreatDoorPut19
import Derived.Test.YtaokifbpakbgdabGreatDoorPut6
import Derived.Test.YtaokifbpakbgdabGreatDoorPut11
import Derived.Deep.RegionHeld3
import Derived.BigQuiet
import Derived.Deep.CutBlock
/- A picture of a patient of its own: it may be laid in, is told and counted, and taken out leaves all as it was (no program in it). -/
namespace Go.Proofs.YtaokifbpakbgdabGreatDoor
open Go.RowKit
/-- Its names. -/
def qL : List (El 3) := [flE 2 524312 [85, 73] [55], flE 2 1048608 [76, 79] [81], flE 2 2097165 [85, 73] [55], flE 2 2097166 [85, 73] [55]]
/-- What of a description goes into it. -/
def isPP (x : El 3) : Bool := x.1 == 1048592 || x.1 == 533016
def setZ (l : List (El 3)) : List (El 3) := qL ++ l.filter isPP
def nmZ (i : Nat) : By := if i = 0 then [81] else [55]
theorem qL_dok : ∀ x ∈ qL, DOk x := fun x hx => by
  unfold qL at hx
  simp only [List.mem_cons, List.not_mem_nil, or_false] at hx
  rcases hx with rfl | rfl | rfl | rfl
  · exact dok_flat (by decide) (by decide) (by decide) (by decide) (by decide) (by decide) (by decide) (by decide) (by decide)
  · exact dok_flat (by decide) (by decide) (by decide) (by decide) (by decide) (by decide) (by decide) (by decide) (by decide)
  · exact dok_flat (by decide) (by decide) (by decide) (by decide) (by decide) (by decide) (by decide) (by decide) (by decide)
  · exact dok_flat (by decide) (by decide) (by decide) (by decide) (by decide) (by decide) (by decide) (by decide) (by decide)
theorem setZ_nodup {l : List (El 3)} (h : Desc l) : ((setZ l).map (·.1)).Nodup := by
  have hr := (errS_props (n := 2) h.1).2.1
  unfold setZ
  rw [List.map_append, List.nodup_append]
  refine ⟨by decide, ?_, fun a ha b hb e => ?_⟩
  · rw [List.nodup_iff_pairwise_ne, List.pairwise_map]
    exact (hr.filter isPP).imp (fun h e => by omega)
  · obtain ⟨x, hx, rfl⟩ := List.mem_map.1 hb
    have hp := (List.mem_filter.1 hx).2
    unfold isPP at hp
    simp only [Bool.or_eq_true, beq_iff_eq] at hp
    have ha' : a ∈ ([524312, 1048608, 2097165, 2097166] : List Int) := ha
    have hq : a = 524312 ∨ a = 1048608 ∨ a = 2097165 ∨ a = 2097166 := by simpa using ha'
    omega
theorem two_len {a b : Int} : ∀ {l : List Int}, l.Nodup → (∀ t ∈ l, t = a ∨ t = b) → l.length ≤ ([a, b] : List Int).length
  | [], _, _ => Nat.zero_le _
  | [_], _, _ => by show 1 ≤ 2; omega
  | [_, _], _, _ => Nat.le_refl _
  | x :: y :: z :: l, h, hx => by
    have h1 := List.nodup_cons.1 h
    have h2 := List.nodup_cons.1 h1.2
    have hxy : x ≠ y := fun e => h1.1 (by rw [e]; simp)
    have hxz : x ≠ z := fun e => h1.1 (by rw [e]; simp)
    have hyz : y ≠ z := fun e => h2.1 (by rw [e]; simp)
    have k1 := hx x (by simp)
    have k2 := hx y (by simp)
    have k3 := hx z (by simp)
    omega
theorem setZ_len {l : List (El 3)} (h : Desc l) : (setZ l).length ≤ 6 := by
  have hn := setZ_nodup h
  unfold setZ at hn ⊢
  rw [List.map_append, List.nodup_append] at hn
  have hs : ((l.filter isPP).map (·.1)).length ≤ ([1048592, 533016] : List Int).length := by
    refine two_len hn.2.1 (fun t ht => ?_)
    obtain ⟨x, hx, rfl⟩ := List.mem_map.1 ht
    have hp := (List.mem_filter.1 hx).2
    unfold isPP at hp
    simp only [Bool.or_eq_true, beq_iff_eq] at hp
    exact hp
  rw [List.length_map] at hs
  rw [List.length_append]
  have h4 : qL.length = 4 := rfl
  have h2 : ([1048592, 533016] : List Int).length = 2 := rfl
  omega
/-- Its description. -/
def desZ (l : List (El 3)) : List (El 3) := srtE (n := 2) (setZ l)
theorem desZ_nm {l : List (El 3)} (h : Desc l) : ∀ i, i < 4 → nm (n := 2) i (desZ l) = nmZ i := fun i hi => by
  unfold nm desZ
  rw [textE_srt (setZ_nodup h)]
  have hf : findE (n := 2) (setZ l) (nameT i) = some (flE 2 (nameT i) (if i = 0 then [76, 79] else [85, 73]) (nmZ i)) := by
    refine (findE_iff (setZ_nodup h)).2 ⟨List.mem_append_left _ ?_, rfl⟩
    unfold qL
    rcases (show i = 0 ∨ i = 1 ∨ i = 2 ∨ i = 3 by omega) with rfl | rfl | rfl | rfl
    · exact List.mem_cons_of_mem _ List.mem_cons_self
    · exact List.mem_cons_of_mem _ (List.mem_cons_of_mem _ List.mem_cons_self)
    · exact List.mem_cons_of_mem _ (List.mem_cons_of_mem _ (List.mem_cons_of_mem _ List.mem_cons_self))
    · exact List.mem_cons_self
  unfold textE
  rw [hf]
  rfl
theorem desZ_ok {l : List (El 3)} (h : Desc l) : errS 3 0 (desZ l) = 0 ∧ desE (n := 1) (desZ l) = 0 ∧ (wrS false 0 3 (desZ l)).length ≤ 16384 ∧ (desZ l).length ≤ 24 := by
  have hall : ∀ x ∈ setZ l, DOk x := fun x hm => by
    rcases List.mem_append.1 hm with hm | hm
    · exact qL_dok x hm
    · exact h.2.2.2.1 x (List.mem_filter.1 hm).1
  have hall' : ∀ x ∈ desZ l, DOk x := fun x hm => hall x ((srtE_perm _).mem_iff.1 hm)
  have hlen := setZ_len h
  have hb : (wrS false 0 3 (desZ l)).length ≤ (desZ l).length * 600 := wrS_few (n := 2) (B := 600) (fun x hm => (hall' x hm).2.2.2)
  have hz : (desZ l).length = (setZ l).length := srtE_len _
  have hb2 : (setZ l).length * 600 ≤ 6 * 600 := Nat.mul_le_mul_right _ hlen
  rw [hz] at hb
  refine ⟨errS_srt (n := 2) (by omega) (setZ_nodup h) (fun x hm => (hall x hm).1), desE_make hall' (fun i hi => ?_), by omega, by omega⟩
  rw [desZ_nm h i hi]
  rcases (show i = 0 ∨ i = 1 ∨ i = 2 ∨ i = 3 by omega) with rfl | rfl | rfl | rfl <;> decide
theorem nmZ_new {o : List (El 3)} (h : Desc o) : ∀ i, i < 4 → nm (n := 2) i o ≠ nmZ i := fun i hi e => by
  obtain ⟨_, _, _, _, p, s, e', c, hn, hk⟩ := h
  rw [hk i hi] at e
  rcases (show i = 0 ∨ i = 1 ∨ i = 2 ∨ i = 3 by omega) with rfl | rfl | rfl | rfl
  · have := (List.cons.inj (show (80 : UInt8) :: dgs 1 p = 81 :: [] from e)).1
    exact absurd this (by decide)
  · have := (List.cons.inj (show (49 : UInt8) :: ([46] ++ dgs 2 (s + 10)) = 55 :: [] from e)).1
    exact absurd this (by decide)
  · have := (List.cons.inj (show (49 : UInt8) :: ([46, 50, 46] ++ dgs 2 (e' + 10)) = 55 :: [] from e)).1
    exact absurd this (by decide)
  · have := (List.cons.inj (show (49 : UInt8) :: ([46, 50, 46, 51, 46] ++ dgs 3 (7 * e' + c + 100)) = 55 :: [] from e)).1
    exact absurd this (by decide)
theorem cnt_all {A : List (List (El 3))} (hG : Good (n := 1) A) : cntA (n := 2) A 3 = A.length := by
  have h : (A.map (nm (n := 2) 3)).length = (seenA (n := 2) 3 A []).length := nodup_len hG.2.1 (seenA_nodup 3 A [] List.nodup_nil) (fun s => by
    rw [seenA_mem, List.mem_map]
    constructor
    · rintro ⟨o, ho, rfl⟩; exact Or.inr ⟨o, ho, rfl⟩
    · rintro (h | ⟨o, ho, rfl⟩)
      · cases h
      · exact ⟨o, ho, rfl⟩)
  rw [List.length_map] at h
  exact h.symm
theorem out_z {A : List (List (El 3))} (hD : ∀ o ∈ A, Desc o) : outA A [55] = A := outA_none (fun o ho => nmZ_new (hD o ho) 3 (by omega))
/-- It is laid in. -/
theorem lay_z {A : List (List (El 3))} (hD : ∀ o ∈ A, Desc o) (hA : A.length < 48) {l : List (El 3)} (h : Desc l) : layE A (desZ l) = 0 ∧ layA A (desZ l) = A ++ [desZ l] := by
  have h3 : nm (n := 2) 3 (desZ l) = [55] := desZ_nm h 3 (by omega)
  have hc : (outA A (nm (n := 2) 3 (desZ l))).any (clash (desZ l)) = false := by
    rw [List.any_eq_false]
    intro o ho
    have hd := hD o (List.mem_filter.1 ho).1
    have h2 : nm (n := 2) 2 o ≠ nm (n := 2) 2 (desZ l) := by rw [desZ_nm h 2 (by omega)]; exact nmZ_new hd 2 (by omega)
    have h1 : nm (n := 2) 1 o ≠ nm (n := 2) 1 (desZ l) := by rw [desZ_nm h 1 (by omega)]; exact nmZ_new hd 1 (by omega)
    unfold clash
    simp [h1, h2]
  have he : layE A (desZ l) = 0 := by
    unfold layE
    rw [if_neg (fun k => k (desZ_ok h).2.1), if_neg (by rw [hc]; decide), if_neg (by rw [h3, out_z hD]; omega)]
  refine ⟨he, ?_⟩
  unfold layA
  rw [if_pos he, h3, out_z hD]
theorem sto_z {A : List (List (El 3))} (hD : ∀ o ∈ A, Desc o) (hA : A.length < 48) {l : List (El 3)} (h : Desc l) : stoE A (wrS false 0 3 (desZ l)) = 0 ∧ stoA A (wrS false 0 3 (desZ l)) = A ++ [desZ l] := by
  obtain ⟨p1, p2⟩ := way_parse (desZ_ok h).1 (desZ_ok h).2.2.1
  obtain ⟨l1, l2⟩ := lay_z hD hA h
  unfold stoE stoA
  rw [if_neg (fun h => h p2), if_neg (fun h => h p2), p1]
  exact ⟨l1, l2⟩
theorem good_z {A : List (List (El 3))} (hG : Good (n := 1) A) (hD : ∀ o ∈ A, Desc o) (hA : A.length < 48) {l : List (El 3)} (h : Desc l) : Good (n := 1) (A ++ [desZ l]) := by
  have := hG.lay (l := desZ l) (desZ_ok h).1
  rw [(lay_z hD hA h).2] at this
  exact this
/-- It is counted. -/
theorem cnt_z {A : List (List (El 3))} (hD : ∀ o ∈ A, Desc o) {l : List (El 3)} (h : Desc l) {i : Nat} (hi : i < 4) : cntA (n := 2) (A ++ [desZ l]) i = cntA (n := 2) A i + 1 := by
  unfold cntA
  have happ : ∀ (X Y : List (List (El 3))) (s : List By), seenA (n := 2) i (X ++ Y) s = seenA (n := 2) i Y (seenA (n := 2) i X s) := fun X => by
    induction X with
    | nil => intro Y s; rfl
    | cons x X ih => intro Y s; rw [List.cons_append, seenA, seenA, ih]
  rw [happ, seenA, seenA, desZ_nm h i hi, if_neg, List.length_append]
  · rfl
  · intro hc
    rw [List.contains_iff_mem, seenA_mem] at hc
    rcases hc with hc | ⟨o, ho, he⟩
    · cases hc
    · exact nmZ_new (hD o ho) i hi he
/-- It is taken out again. -/
theorem out_zz {A : List (List (El 3))} (hD : ∀ o ∈ A, Desc o) {l : List (El 3)} (h : Desc l) : outA (A ++ [desZ l]) [55] = A := by
  have h3 : nm (n := 2) 3 (desZ l) = [55] := desZ_nm h 3 (by omega)
  have := out_z hD
  unfold outA at this ⊢
  rw [List.filter_append, this]
  simp [h3]
/-- What is asked: of all patients their names and how many studies they have. -/
def xsZ : List (El 3) := [flE 2 1048608 [76, 79] [], flE 2 1048592 [80, 78] [], flE 2 2101760 [73, 83] []]
theorem xsZ_ok : XOk 0 xsZ ∧ ∀ x ∈ xsZ, matchE x.2.1 x.2.2.1 [] = 0 := by
  refine ⟨⟨by decide, by decide, fun x hx => ?_⟩, fun x hx => ?_⟩
  · unfold xsZ at hx
    simp only [List.mem_cons, List.not_mem_nil, or_false] at hx
    rcases hx with rfl | rfl | rfl
    · exact ⟨1048608, [], rfl, by decide, by decide, by decide, by decide, by decide⟩
    · exact ⟨1048592, [], rfl, by decide, by decide, by decide, by decide, by decide⟩
    · exact ⟨2101760, [], rfl, by decide, by decide, by decide, by decide, by decide⟩
  · unfold xsZ at hx
    simp only [List.mem_cons, List.not_mem_nil, or_false] at hx
    rcases hx with rfl | rfl | rfl
    · show matchE [76, 79] [] [] = 0; decide
    · show matchE [80, 78] [] [] = 0; decide
    · show matchE [73, 83] [] [] = 0; decide
theorem nf0 (nf : Nat → By) : NfOk 0 nf := fun i hi => absurd hi (by omega)
/-- All patients are told. -/
theorem ans_z {A : List (List (El 3))} (hG : Good (n := 1) A) (nf : Nat → By) : (ansS A 0 (askQ 0 nf xsZ)).length = cntA (n := 2) A 0 := by
  rw [ansS_len]
  unfold namesF cntA
  rw [List.filter_eq_self.2]
  intro s hs
  have hs' : ∃ l ∈ A, nm (n := 2) 0 l = s := by
    rcases (seenA_mem 0 s A []).1 hs with h | h
    · cases h
    · exact h
  obtain ⟨hm, _⟩ := lastA_mem (n := 2) hs'
  have hc : ∀ t ∈ tagsQ, chk (kindT t) (valG (gS (n := 1) A 0 s) t) = 0 := fun t ht => tell_chk hG.1 (hG.2.2 _ hm).2 ht
  rw [fit_ask hG (by omega) (nf0 nf) xsZ_ok.1 hs']
  refine ⟨fun i hi => absurd hi (by omega), fun x hx => ?_⟩
  unfold xsZ at hx
  simp only [List.mem_cons, List.not_mem_nil, or_false] at hx
  rcases hx with rfl | rfl | rfl
  · exact match_empty (hc 1048608 (by decide))
  · exact match_empty (hc 1048592 (by decide))
  · exact match_empty (hc 2101760 (by decide))
/-- What is answered is right. -/
theorem ans_err {A : List (List (El 3))} (hG : Good (n := 1) A) (nf : Nat → By) : ∀ l ∈ ansS A 0 (askQ 0 nf xsZ), errS 3 0 l = 0 := fun l hl => ((ask_answers hG (by omega) (nf0 nf) xsZ_ok.1 xsZ_ok.2).2.2.2 l hl).1
end Go.Proofs.YtaokifbpakbgdabGreatDoor

/- The data sets that numbers speak of (foliokeep's 'some'), and that they are right (no program). -/
namespace Go.Proofs.YtaokifbpakbgdabGreatDoor

def pk (k n : Int) : Int := (if k < 0 then -(k + 1) else k) % n
/-- The kinds that are spoken of. -/
def kd (b : Int) : By := if pk b 5 = 0 then [76, 79] else if pk b 5 = 1 then [85, 73] else if pk b 5 = 2 then [67, 83] else if pk b 5 = 3 then [83, 81] else [80, 78]
/-- Letters: from 97 + n down to 98. -/
def lt : Nat → By
  | 0 => []
  | n + 1 => UInt8.ofNat (97 + (n + 1)) :: lt n
end Go.Proofs.YtaokifbpakbgdabGreatDoor

/- Package foliokeep: a data set is the same as itself, wherever it lies. -/
namespace Go.Proofs.YtaokifbpakbgdabGreatDoor
open Go.RowKit

def KS (n : Nat) : Prop := ∀ (F G : Nat → Prop) (w : World) (a b : Value) (l : List (El n)) (d : Nat), Rd w F n a l → Rd w G n b l → errS n d l = 0 → d ≤ 2 → 3 ≤ d + n →
  Calls Tryz.prog 13 #[a, b] w fun e w' => e = .returned (.bool true) ∧ Below w.heap.size w w'
set_option maxHeartbeats 4000000 in
set_option maxRecDepth 20000 in
theorem ksame_succ (n : Nat) (H : KS n) : KS (n + 1) := by
  intro F G w va vb l d ha hb he hd hn
  obtain ⟨ad, cap, rfl⟩ := ha.slice
  obtain ⟨bd, cbp, rfl⟩ := hb.slice
  rw [errS] at he
  by_cases h24 : 24 < l.length
  · rw [if_pos h24] at he; cases he
  rw [if_neg h24] at he
  have hels := errL_mem he
  clear he
  go_enter Tryz.func13, Tryz.ntmps13
  go_wp2_with fail
  go_loopw [5] (fun i wr => ∃ k : Nat, k ≤ l.length ∧ i = .int .i64 k ∧ Hid (Below w.heap.size w wr)) (fun i _ => l.length - (intOf i).toNat)
  case atStart => exact ⟨0, Nat.zero_le _, rfl, Below.refl _ _⟩
  case round =>
    obtain ⟨k, hk, rfl, hup⟩ := hrel
    by_cases hkl : k < l.length
    · have ha' := hid (ha.up hup.out)
      have hb' := hid (hb.up hup.out)
      obtain ⟨a, ad2, cap2, rfl, hF, c0, c1, c2, c3, hrd⟩ := ha'.out.at (List.getElem?_eq_getElem hkl)
      obtain ⟨b, bd2, cbp2, rfl, hG, g0, g1, g2, g3, hrg⟩ := hb'.out.at (List.getElem?_eq_getElem hkl)
      obtain ⟨before, hbef⟩ := hels l[k] (List.getElem_mem hkl)
      generalize l[k] = x at hrd hrg hbef c0 c1 c2 c3 g0 g1 g2 g3
      obtain ⟨t, kd, u, its⟩ := x
      obtain ⟨e1, e2, e3, e4, e5, e6, e7, e8, e9, e10, e11, e12⟩ := errE_ok hbef
      simp only at e1 e2 e3 e4 e5 e6 e7 e8 e9 e10 e11 e12 c0 c1 c2 c3 g0 g1 g2 g3 hrd hrg
      have hgood := hid (errI_mem e12)
      have hdep := hid (show its ≠ [] → d < 2 from fun hne => e11 (Classical.byContradiction fun hq => hne (e9 hq)))
      clear e1 e2 e3 e4 e5 e6 e7 e8 e9 e11 e12 hbef ha' hb'
      have hA := hid hrd
      have hB := hid hrg
      clear hrd hrg
      have HC : Hid (∀ wi, Below wr.heap.size wr wi → wi.cell? ⟨(a.add (k * 4)).block, (a.add (k * 4)).off + 3, none⟩ = some (.slice ad2 its.length cap2) ∧ wi.cell? ⟨(b.add (k * 4)).block, (b.add (k * 4)).off + 3, none⟩ = some (.slice bd2 its.length cbp2) ∧
          RdI wi F n (.slice ad2 its.length cap2) its ∧ RdI wi G n (.slice bd2 its.length cbp2) its ∧ Below w.heap.size w wi) := fun wi hwi =>
        ⟨cell_keep (hwi.block _ (World.block_lt_of_cell? _ _ c3)) c3, cell_keep (hwi.block _ (World.block_lt_of_cell? _ _ g3)) g3, hA.out.up hwi, hB.out.up hwi, hup.out.trans (hwi.mono hup.out.size)⟩
      go_wp2_with fail
      go_quiet (fail)
      go_wp2_with fail
      go_loopw [6] (fun j wi => ∃ i : Nat, i ≤ its.length ∧ j = .int .i64 i ∧ Hid (Below wr.heap.size wr wi)) (fun j _ => its.length - (intOf j).toNat)
      case atStart => exact ⟨0, Nat.zero_le _, rfl, below_drewN (Below.refl _ _) _⟩
      case round =>
        obtain ⟨i, hi, rfl, hupi⟩ := hrel
        obtain ⟨i3, j3, hAi, hBi, hupw⟩ := HC.out _ hupi.out
        by_cases hil : i < its.length
        · obtain ⟨a2, ad3, cap3, rfl, _, k0, hrd5⟩ := hAi.at (List.getElem?_eq_getElem hil)
          obtain ⟨b2, bd3, cbp3, rfl, _, m0, hrg5⟩ := hBi.at (List.getElem?_eq_getElem hil)
          have hgk := hgood.out its[i] (List.getElem_mem hil)
          have hd2 := hdep.out (fun e => by rw [e] at hil; simp at hil)
          generalize its[i] = y at hrd5 hrg5 hgk k0 m0
          have hrd5' := hid hrd5
          have hrg5' := hid hrg5
          have hupw' := hid hupw
          clear hrd5 hrg5 hAi hBi hupw
          have q1 : ∀ q : Later wr, q.val.cell? ⟨(a.add (k * 4)).block, (a.add (k * 4)).off + 3, none⟩ = some (.slice (some a2) its.length cap2) := fun q => cell_keep (q.up.block _ (World.block_lt_of_cell? _ _ i3)) i3
          have q2 : ∀ q : Later wr, q.val.cell? ⟨(b.add (k * 4)).block, (b.add (k * 4)).off + 3, none⟩ = some (.slice (some b2) its.length cbp2) := fun q => cell_keep (q.up.block _ (World.block_lt_of_cell? _ _ j3)) j3
          have q3 : ∀ q : Later wr, q.val.cell? (a2.add i) = some (.slice ad3 y.length cap3) := fun q => cell_keep (q.up.block _ (World.block_lt_of_cell? _ _ k0)) k0
          have q4 : ∀ q : Later wr, q.val.cell? (b2.add i) = some (.slice bd3 y.length cbp3) := fun q => cell_keep (q.up.block _ (World.block_lt_of_cell? _ _ m0)) m0
          have hne : Nonempty (Later wr) := ⟨Later.of (Below.refl _ _)⟩
          go_wp2_with fail
          refine wp_region_below (by kernel_rfl) (by kernel_rfl) ?_
          repeat quiet_step ((go_at_call 13; exact calls_below (H F G _ _ _ y (d + 1) (hrd5'.out.up (Later.up _)) (hrg5'.out.up (Later.up _)) hgk (by omega) (by omega))))
          refine wpQuiet_nil ?_
          intro _ hw'
          obtain ⟨wq, rfl⟩ := hw'
          have hupq := hid (hupi.out.trans (wq.up.mono hupi.out.size))
          generalize wq.val = w4 at hupq ⊢
          clear q1 q2 q3 q4 hne
          go_wp2
          go_roundw
          case rel => exact ⟨i + 1, by omega, by go_num, hupq⟩
          case measure => simp [intOf]; omega
        · go_wp2
          go_roundw
          case rel => first | exact ⟨k + 1, by omega, by go_num, hupw⟩ | ((repeat apply Exists.intro); exact ⟨⟨k + 1, by omega, by go_num, hupw⟩, rfl⟩)
          case measure => simp [intOf]; omega
    · go_wp2
      go_ret
      exact ⟨rfl, hup.out⟩
theorem ksame_any : ∀ n, KS n
  | 0 => fun _ _ _ _ _ _ _ _ _ _ h1 h2 => absurd h2 (by omega)
  | n + 1 => ksame_succ n (ksame_any n)
end Go.Proofs.YtaokifbpakbgdabGreatDoor

/- Package foliokeep: Traceless. -/
namespace Go.Proofs.YtaokifbpakbgdabGreatDoor
open Go.RowKit
/-- All blocks from one on are as they were. -/
def Ab (M : Nat) (w w' : World) : Prop := w.heap.size ≤ w'.heap.size ∧ ∀ j, M ≤ j → j < w.heap.size → w'.heap[j]? = w.heap[j]?
theorem Ab.trans {M : Nat} {w w' w'' : World} (h : Ab M w w') (k : Ab M w' w'') : Ab M w w'' := ⟨Nat.le_trans h.1 k.1, fun j h1 h2 => (k.2 j h1 (Nat.lt_of_lt_of_le h2 h.1)).trans (h.2 j h1 h2)⟩
theorem Ab.below {M : Nat} {w w' : World} (h : Below w.heap.size w w') : Ab M w w' := ⟨h.size, fun j _ hj => h.block j hj⟩
theorem Ab.upB {M B : Nat} {w w' : World} (h : UpB B w w') (hB : B < M) : Ab M w w' := ⟨h.size, fun j h1 h2 => h.block h2 (by omega)⟩
theorem Ab.rdI {M : Nat} {w w' : World} {F : Nat → Prop} {v : Value} {l : List (List (El 3))} (h : Ab M w w') (hr : RdI w F 3 v l) (hF : ∀ j, F j → M ≤ j) : RdI w' F 3 v l := hr.keep (fun _ h => h) (fun j hj hl => h.2 j (hF j hj) hl)
theorem Ab.f4 {M : Nat} {w w' : World} {b : Nat} {f : Nat → Int} (h : Ab M w w') (hr : F4 w b f) (hb : M ≤ b) : F4 w' b f := hr.keep (h.2 b hb hr.lt)
theorem el_rd3 {w : World} {F : Nat → Prop} {b : Nat} {t t' t'' : Int} {k v k' v' k'' v'' : By} {c : Nat} (h : cls w b #[.int .i64 t, .string (bs k), .string (bs v), .slice none 0 0, .int .i64 t', .string (bs k'), .string (bs v'), .slice none 0 0, .int .i64 t'', .string (bs k''), .string (bs v''), .slice none 0 0] 33) (hF : F b) : Rd w F 3 (.slice (some ⟨b, 0, none⟩) 3 c) [flE 2 t k v, flE 2 t' k' v', flE 2 t'' k'' v''] := by
  refine ⟨some ⟨b, 0, none⟩, c, rfl, fun i x hx => ⟨_, rfl, hF, ?_⟩⟩
  have hi := (List.getElem?_eq_some_iff.1 hx).1
  rcases (show i = 0 ∨ i = 1 ∨ i = 2 by have : ([flE 2 t k v, flE 2 t' k' v', flE 2 t'' k'' v''] : List (El 3)).length = 3 := rfl; omega) with rfl | rfl | rfl
  · obtain rfl := Option.some.inj hx
    exact ⟨h.at rfl, h.at rfl, h.at rfl, _, h.at rfl, RdI.nil _ _ _⟩
  · obtain rfl := Option.some.inj hx
    exact ⟨h.at rfl, h.at rfl, h.at rfl, _, h.at rfl, RdI.nil _ _ _⟩
  · obtain rfl := Option.some.inj hx
    exact ⟨h.at rfl, h.at rfl, h.at rfl, _, h.at rfl, RdI.nil _ _ _⟩
/-- The answers of a book, whatever lies in its archive. -/
theorem book_answers2 {w0 w : World} {B a m : Nat} {T : Int} {F G : Nat → Prop} {fv : Value} {A' A : List (List (El 3))} (h : BkI w0 w B a m T F G fv A' A) (hG : Good (n := 1) A') (hV : VarsK w0) {lvl : Nat} (hlv : lvl < 4) {nf : Nat → By} (hn : NfOk lvl nf) {xs : List (El 3)} (hx : XOk lvl xs) (hp : ∀ x ∈ xs, matchE x.2.1 x.2.2.1 [] = 0) :
    Calls Tryz.prog 6 #[ptr B, .string (bs (wrS false 0 3 (askQ lvl nf xs)))] w fun e w' => ∃ v, e = .returned v ∧ UpB B w w' ∧ BkI w0 w' B a m T F G fv A' A ∧ RdI w' (fun j => w.heap.size ≤ j ∧ j < w'.heap.size) 3 v (ansS A' lvl (askQ lvl nf xs)) := by
  obtain ⟨h1, h2, h3, h4⟩ := ask_answers hG hlv hn hx hp
  have hv := hV.up h.2.2.2.2.2.2.2
  refine (kanswers_any F w B a m T A' _ fv _ h.2.1 (fun j hj => (h.2.2.2.1 j hj).1) hG hv.2.1 hv.2.2.1 hv.2.2.2 hv.1 h.1 h1 h2 h3 h4).mono ?_
  rintro e w' ⟨v, he, hu, hB, hr⟩
  exact ⟨v, he, hu, h.atB hu hB, hr⟩
/-- The names of the picture of its own, laid out. -/
def qC : List Value := [.int .i64 524312, .string (bs [85, 73]), .string (bs [55]), .slice none 0 0, .int .i64 1048608, .string (bs [76, 79]), .string (bs [81]), .slice none 0 0, .int .i64 2097165, .string (bs [85, 73]), .string (bs [55]), .slice none 0 0, .int .i64 2097166, .string (bs [85, 73]), .string (bs [55]), .slice none 0 0]
theorem qC_own {w : World} {base b : Nat} (h : cls w b #[.int .i64 524312, .string ⟨#[85, 73]⟩, .string ⟨#[55]⟩, .slice none 0 0, .int .i64 1048608, .string ⟨#[76, 79]⟩, .string ⟨#[81]⟩, .slice none 0 0, .int .i64 2097165, .string ⟨#[85, 73]⟩, .string ⟨#[55]⟩, .slice none 0 0, .int .i64 2097166, .string ⟨#[85, 73]⟩, .string ⟨#[55]⟩, .slice none 0 0] 33) (hb : base ≤ b) : w.ownsRow base 33 4 (.slice (some ⟨b, 0, none⟩) 4 4) 4 qC :=
  ⟨rfl, Or.inr ⟨b, 4, _, rfl, hb, h, Nat.le_refl _, by decide, rfl, rfl⟩⟩
theorem qC_ls (w : World) (F : Nat → Prop) : Ls 4 (CpE w F 2) qC qL [] :=
  ⟨_, _, [], [], rfl, rfl, ⟨rfl, _, rfl, RdI.nil _ _ _⟩, ⟨_, _, [], [], rfl, rfl, ⟨rfl, _, rfl, RdI.nil _ _ _⟩, ⟨_, _, [], [], rfl, rfl, ⟨rfl, _, rfl, RdI.nil _ _ _⟩, ⟨_, _, [], [], rfl, rfl, ⟨rfl, _, rfl, RdI.nil _ _ _⟩, ⟨rfl, rfl⟩, rfl⟩, rfl⟩, rfl⟩, rfl⟩
theorem filt_take {l : List (El 3)} {k : Nat} (h : k < l.length) : (l.take (k + 1)).filter isPP = if isPP l[k] = true then (l.take k).filter isPP ++ [l[k]] else (l.take k).filter isPP := by
  rw [List.take_succ_eq_append_getElem h, List.filter_append]
  by_cases h1 : isPP l[k] = true
  · rw [if_pos h1, List.filter_cons_of_pos h1, List.filter_nil]
  · rw [if_neg h1, List.filter_cons_of_neg h1, List.filter_nil, List.append_nil]
theorem filt_len (l : List (El 3)) (k : Nat) : ((l.take k).filter isPP).length ≤ k := Nat.le_trans (List.length_filter_le _ _) (by rw [List.length_take]; exact Nat.min_le_left _ _)
set_option maxRecDepth 20000 in
set_option maxHeartbeats 16000000 in
theorem Traceless_any (w : World) (ad : Option Addr) (n c : Nat) (aw : Option Addr) (nw cw : Nat) (Zw : Nat → Int) (hP : Pix w ad n) (hR : Raws w aw nw cw Zw) (hV : VarsK w) :
    Calls Tryz.prog 3 #[.slice ad n c, .slice aw nw cw] w fun e w' => e = .returned (.bool true) ∧ Below w.heap.size w w' := by
  obtain ⟨i0, hi0, hz0, hz1, hz2⟩ := info_parts info_element
  have HI := hid hi0
  have HV := hid hV
  have HR := hid hR
  have CP := hid (played_any w ad n c hP hV)
  clear hP hV hR hi0
  go_enter Tryz.func3, Tryz.ntmps3
  go_wp2_with fail
  go_at_call 4
  refine CP.out.mono ?_
  rintro e w1 ⟨B, rfl, a, m, T, F, G, fv, A, hb, hG, hD, hT0, hT1⟩
  have H1 := hid hb
  have HG := hid hG
  have HD := hid hD
  have hBl := hb.1.lt
  have hal := hb.2.1.1.lt
  have hml := hb.2.1.mlt
  have hA48 := hG.1
  clear hb hG hD CP
  go_wp2_with fail
  have u2 := Below.alloc (Below.refl w1.heap.size w1) (Nat.le_refl _) (.cells #[.int .i64 1048608, .string ⟨#[76, 79]⟩, .string ⟨#[]⟩, .slice none 0 0, .int .i64 1048592, .string ⟨#[80, 78]⟩, .string ⟨#[]⟩, .slice none 0 0, .int .i64 2101760, .string ⟨#[73, 83]⟩, .string ⟨#[]⟩, .slice none 0 0] 33)
  have E2 : cls (w1.alloc (.cells #[.int .i64 1048608, .string ⟨#[76, 79]⟩, .string ⟨#[]⟩, .slice none 0 0, .int .i64 1048592, .string ⟨#[80, 78]⟩, .string ⟨#[]⟩, .slice none 0 0, .int .i64 2101760, .string ⟨#[73, 83]⟩, .string ⟨#[]⟩, .slice none 0 0] 33)) w1.heap.size #[.int .i64 1048608, .string (bs [76, 79]), .string (bs []), .slice none 0 0, .int .i64 1048592, .string (bs [80, 78]), .string (bs []), .slice none 0 0, .int .i64 2101760, .string (bs [73, 83]), .string (bs []), .slice none 0 0] 33 := heap_alloc_new _ _
  generalize w1.alloc (.cells #[.int .i64 1048608, .string ⟨#[76, 79]⟩, .string ⟨#[]⟩, .slice none 0 0, .int .i64 1048592, .string ⟨#[80, 78]⟩, .string ⟨#[]⟩, .slice none 0 0, .int .i64 2101760, .string ⟨#[73, 83]⟩, .string ⟨#[]⟩, .slice none 0 0] 33) = w2 at u2 E2 ⊢
  have CA := hid (asked_any 0 (by omega) (fun _ => []) (.slice none 0 0) (fun j => j = w1.heap.size) w2 ⟨w1.heap.size, 0, none⟩ 3 3 xsZ (el_rd3 E2 rfl) (fun j hj => by rw [hj]; exact E2.lt) (nf0 _) xsZ_ok.1)
  go_at_call 5
  refine CA.out.mono ?_
  rintro e w3 ⟨rfl, u3⟩
  have H3 := hid ((H1.out.up u2).up u3)
  have S3 := hid (Nat.le_trans u2.size u3.size)
  clear u2 u3 E2 CA
  go_wp2_with fail
  go_at_call 6
  refine (book_answers2 H3.out HG.out HV.out (by omega) (nf0 _) xsZ_ok.1 xsZ_ok.2).mono ?_
  rintro e w4 ⟨v7, rfl, u4, hb4, hr4⟩
  have H4 := hid hb4
  have R4 := hid hr4
  have S4 := hid (Nat.le_trans S3.out u4.size)
  have AE := hid (ans_err HG.out (fun _ => []))
  have AN := hid (ans_z HG.out (fun _ => []))
  have BA := hid (fun (w' : World) (T' : Int) (F' : Nat → Prop) (A' : List (List (El 3))) (h : BkI w w' B a m T' F' G fv A' A) (hG' : Good (n := 1) A') => book_answers2 h hG' HV.out (show 0 < 4 by omega) (nf0 (fun _ => [])) xsZ_ok.1 xsZ_ok.2)
  have hF7 := hid (show ∀ j, (w3.heap.size ≤ j ∧ j < w4.heap.size) → w1.heap.size ≤ j from fun j hj => Nat.le_trans S3.out hj.1)
  generalize HX : ansS A 0 (askQ 0 (fun _ => []) xsZ) = X0 at R4 AE AN
  obtain ⟨ad7, cap7, rfl⟩ := R4.out.slice
  generalize HQ : wrS false 0 3 (askQ 0 (fun _ => []) xsZ) = qs at BA ⊢
  have b0 := H4.out.1.at (i := 0) rfl
  have CC := hid (Count_any 1 _ w4 _ _ _ A H4.out.2.1 HG.out (HV.out.2.1.up H4.out.2.2.2.2.2.2.2))
  clear u4 hb4 hr4 H3 HQ
  go_wp2_with fail
  go_at_call 7
  refine CC.out.mono ?_
  rintro e w5 ⟨rfl, u5⟩
  unfold arr4
  clear CC b0
  go_upto_region 7 with fail
  have u6 := Below.alloc (Below.refl w5.heap.size w5) (Nat.le_refl _) (.cells #[.int .i64 (cntA (n := 2) A 0 : Int), .int .i64 (cntA (n := 2) A 1 : Int), .int .i64 (cntA (n := 2) A 2 : Int), .int .i64 (cntA (n := 2) A 3 : Int)] 36)
  have N6 : F4 (w5.alloc (.cells #[.int .i64 (cntA (n := 2) A 0 : Int), .int .i64 (cntA (n := 2) A 1 : Int), .int .i64 (cntA (n := 2) A 2 : Int), .int .i64 (cntA (n := 2) A 3 : Int)] 36)) w5.heap.size (fun i => (cntA (n := 2) A i : Int)) := heap_alloc_new _ _
  generalize w5.alloc (.cells #[.int .i64 (cntA (n := 2) A 0 : Int), .int .i64 (cntA (n := 2) A 1 : Int), .int .i64 (cntA (n := 2) A 2 : Int), .int .i64 (cntA (n := 2) A 3 : Int)] 36) = w6 at u6 N6 ⊢
  have H6 := hid ((H4.out.up u5).up u6)
  have R6 := hid ((R4.out.up u5).up u6)
  have S5 := hid (Nat.le_trans S4.out u5.size)
  have S6 := hid (Nat.le_trans S5.out u6.size)
  have NN6 := hid N6
  have n3 : w6.cell? ⟨w5.heap.size, 3, none⟩ = some (.int .i64 (A.length : Int)) := by
    have := (N6.cell (k := 3) (by omega)).1
    rw [cnt_all HG.out] at this
    exact this
  clear u5 u6 N6 H4 R4
  by_cases hfull : 48 ≤ A.length
  · have hd : decide ((48 : Int) ≤ A.length) = true := decide_eq_true (by omega)
    have hfi : (48 : Int) ≤ A.length := by omega
    go_wp2
    go_ret
    exact ⟨rfl, H6.out.2.2.2.2.2.2.2⟩
  have hd : decide ((48 : Int) ≤ A.length) = false := decide_eq_false (by omega)
  have hfi : ¬ (48 : Int) ≤ A.length := by omega
  go_wp2_with fail
  go_at_call 8
  refine (described_any none aw 0 0 nw cw (fun _ => 0) Zw false w6 (raws_none _) (HR.out.up H6.out.2.2.2.2.2.2.2)).mono ?_
  rintro e w7 ⟨sv, l, rfl, u7, hrd, hdesc⟩
  obtain ⟨ads, caps, rfl⟩ := hrd.slice
  have RD7 := hid hrd
  have HDE := hid hdesc
  have U7 := hid u7
  have hl24 := (errS_props (n := 2) hdesc.1).1
  unfold factV
  clear hrd hdesc u7 n3
  go_wp2_with fail
  have u8 := Below.alloc (Below.refl w7.heap.size w7) (Nat.le_refl _) (.cells #[.string (bs (nm (n := 2) 0 l)), .string (bs (nm (n := 2) 1 l)), .string (bs (nm (n := 2) 2 l)), .string (bs (nm (n := 2) 3 l)), .slice ads l.length caps] 30)
  have FB8 : cls (w7.alloc (.cells #[.string (bs (nm (n := 2) 0 l)), .string (bs (nm (n := 2) 1 l)), .string (bs (nm (n := 2) 2 l)), .string (bs (nm (n := 2) 3 l)), .slice ads l.length caps] 30)) w7.heap.size #[.string (bs (nm (n := 2) 0 l)), .string (bs (nm (n := 2) 1 l)), .string (bs (nm (n := 2) 2 l)), .string (bs (nm (n := 2) 3 l)), .slice ads l.length caps] 30 := heap_alloc_new _ _
  have z8 : (w7.alloc (.cells #[.string (bs (nm (n := 2) 0 l)), .string (bs (nm (n := 2) 1 l)), .string (bs (nm (n := 2) 2 l)), .string (bs (nm (n := 2) 3 l)), .slice ads l.length caps] 30)).heap.size = w7.heap.size + 1 := World.size_alloc _ _
  generalize w7.alloc (.cells #[.string (bs (nm (n := 2) 0 l)), .string (bs (nm (n := 2) 1 l)), .string (bs (nm (n := 2) 2 l)), .string (bs (nm (n := 2) 3 l)), .slice ads l.length caps] 30) = w8 at u8 FB8 z8 ⊢
  have u9 := Below.alloc (Below.refl w8.heap.size w8) (Nat.le_refl _) (.cells #[.int .i64 524312, .string ⟨#[85, 73]⟩, .string ⟨#[55]⟩, .slice none 0 0, .int .i64 1048608, .string ⟨#[76, 79]⟩, .string ⟨#[81]⟩, .slice none 0 0, .int .i64 2097165, .string ⟨#[85, 73]⟩, .string ⟨#[55]⟩, .slice none 0 0, .int .i64 2097166, .string ⟨#[85, 73]⟩, .string ⟨#[55]⟩, .slice none 0 0] 33)
  have SB9 : cls (w8.alloc (.cells #[.int .i64 524312, .string ⟨#[85, 73]⟩, .string ⟨#[55]⟩, .slice none 0 0, .int .i64 1048608, .string ⟨#[76, 79]⟩, .string ⟨#[81]⟩, .slice none 0 0, .int .i64 2097165, .string ⟨#[85, 73]⟩, .string ⟨#[55]⟩, .slice none 0 0, .int .i64 2097166, .string ⟨#[85, 73]⟩, .string ⟨#[55]⟩, .slice none 0 0] 33)) (w7.heap.size + 1) #[.int .i64 524312, .string ⟨#[85, 73]⟩, .string ⟨#[55]⟩, .slice none 0 0, .int .i64 1048608, .string ⟨#[76, 79]⟩, .string ⟨#[81]⟩, .slice none 0 0, .int .i64 2097165, .string ⟨#[85, 73]⟩, .string ⟨#[55]⟩, .slice none 0 0, .int .i64 2097166, .string ⟨#[85, 73]⟩, .string ⟨#[55]⟩, .slice none 0 0] 33 := by rw [← z8]; exact heap_alloc_new _ _
  generalize w8.alloc (.cells #[.int .i64 524312, .string ⟨#[85, 73]⟩, .string ⟨#[55]⟩, .slice none 0 0, .int .i64 1048608, .string ⟨#[76, 79]⟩, .string ⟨#[81]⟩, .slice none 0 0, .int .i64 2097165, .string ⟨#[85, 73]⟩, .string ⟨#[55]⟩, .slice none 0 0, .int .i64 2097166, .string ⟨#[85, 73]⟩, .string ⟨#[55]⟩, .slice none 0 0] 33) = w9 at u9 SB9 ⊢
  have U8 := hid u8
  have FB := hid FB8
  have Z8 := hid z8
  have U9 := hid u9
  have OW9 := hid (qC_own SB9 (show w8.heap.size ≤ w7.heap.size + 1 by omega))
  clear u8 u9 FB8 SB9 z8
  go_loopw [10, 11] (fun v i wr => ∃ (k : Nat) (ys : List Value), k ≤ l.length ∧ i = .int .i64 k ∧ Hid (wr.ownsRow w8.heap.size 33 4 v (4 + ((l.take k).filter isPP).length) ys) ∧ Hid (Ls 4 (CpE w7 (fun j => w6.heap.size ≤ j ∧ j < w7.heap.size) 2) ys (qL ++ (l.take k).filter isPP) []) ∧ Hid (Below w8.heap.size w8 wr)) (fun _ i _ => l.length - (intOf i).toNat)
  case atStart => exact ⟨0, qC, Nat.zero_le _, rfl, OW9, (by unfold Hid; rw [List.take_zero, List.filter_nil, List.append_nil]; exact qC_ls _ _), U9⟩
  case round =>
    obtain ⟨k, ys, hk, rfl, hown, hls, hU⟩ := hrel
    have UR := hid (U8.out.trans (hU.out.mono U8.out.size))
    have f4 := (FB.out.up hU.out).at (i := 4) rfl
    by_cases hkl : k < l.length
    · obtain ⟨a2, ad2, cap2, rfl, _, c0, c1, c2, c3, hri⟩ := (RD7.out.up UR.out).at (List.getElem?_eq_getElem hkl)
      have hst := hid (filt_take hkl)
      have hfl := filt_len l k
      have RI := hid hri
      generalize l[k] = x at c0 c1 c2 c3 hst RI
      have hk2 : (k : Int) < l.length := by omega
      have RI7 := hid (show RdI w7 (fun j => w6.heap.size ≤ j ∧ j < w7.heap.size) 2 (.slice ad2 x.2.2.2.length cap2) x.2.2.2 from RI.out.keep (fun _ h => h) (fun j hj _ => (UR.out.block j hj.2).symm))
      obtain ⟨adv, capv, rfl⟩ := own_slice2 hown.out
      clear hri
      have hway : Hid (((x.1 == 1048592) = true ∧ isPP x = true) ∨ ((x.1 == 1048592) = false ∧ (x.1 == 533016) = true ∧ isPP x = true) ∨ ((x.1 == 1048592) = false ∧ (x.1 == 533016) = false ∧ isPP x = false)) := by
        unfold isPP
        cases h1 : x.1 == 1048592
        · cases h2 : x.1 == 533016
          · exact Or.inr (Or.inr ⟨rfl, rfl, rfl⟩)
          · exact Or.inr (Or.inl ⟨rfl, rfl, rfl⟩)
        · exact Or.inl ⟨rfl, rfl⟩
      rcases hway.out with ⟨ht1, hpp⟩ | ⟨ht1, ht2, hpp⟩ | ⟨ht1, ht2, hpp⟩
      case inr.inr =>
        have hF := hid (hst.out.trans (if_neg (by rw [hpp]; decide)))
        clear hst hpp hway
        go_wp2
        go_roundw
        case rel => exact ⟨k + 1, ys, by omega, by go_num, (by unfold Hid; rw [hF.out]; exact hown.out), (by unfold Hid; rw [hF.out]; exact hls.out), hU⟩
        case measure => simp [intOf]; omega
      all_goals
        have hF := hid (hst.out.trans (if_pos hpp))
        clear hst hpp hway
        go_wp2_with (at_builtin; refine wpList_append_own _ rfl _ _ 28 rfl w8.heap.size 33 i0 zeroE 4 64 Tryz.underlying28 HI.out hz0 hz1 hz2 rfl (by decide) _ _ _ rfl (hown.out.alloc _) ⟨wr.heap.size, 0, none⟩ 1 1 [.int .i64 x.1, .string (bs x.2.1), .string (bs x.2.2.1), .slice ad2 x.2.2.2.length cap2] rfl rfl (four_at _ _ _ _ _ _ _ (by simp)) four_one (by unfold maxLen; omega) (by omega) (by have := hU.out.size; simp only [World.size_alloc]; omega) ?_)
        intro v4 w4' hown4 hg4 _
        have U4 := hid (up_grow hU.out hown.out _ hg4)
        have O4 := hid hown4
        obtain ⟨ad4, cap4, rfl⟩ := own_slice2 hown4
        clear hown4 hg4
        go_wp2
        go_roundw
        case rel =>
          refine ⟨k + 1, ys ++ [.int .i64 x.1, .string (bs x.2.1), .string (bs x.2.2.1), .slice ad2 x.2.2.2.length cap2], by omega, by go_num, ?_, ?_, U4⟩
          · unfold Hid
            rw [hF.out, List.length_append]
            exact O4.out
          · unfold Hid
            rw [hF.out, ← List.append_assoc]
            exact Ls.snoc (k := 4) (R := CpE w7 (fun j => w6.heap.size ≤ j ∧ j < w7.heap.size) 2) (b := []) rfl ⟨rfl, _, rfl, RI7.out⟩ hls.out
        case measure => simp [intOf]; omega
    · obtain rfl : k = l.length := by omega
      have hls2 := hid hls.out
      have hown2 := hid hown.out
      rw [List.take_length] at hls2 hown2
      have hzl := setZ_len HDE.out
      have RW := hid (show Row wr 33 4 (CpE w7 (fun j => w6.heap.size ≤ j ∧ j < w7.heap.size) 2) u10 (setZ l) u10.ownBlock.toList from ⟨ys, [], by rw [show (setZ l).length = 4 + (l.filter isPP).length from by unfold setZ; rw [List.length_append]; rfl]; exact ownsRow_low hown2.out, hls2.out, by simp⟩)
      obtain ⟨FW, QW, BW⟩ : ∃ FW : Nat → Prop, Hid (Rd wr FW 3 u10 (setZ l)) ∧ Hid (∀ j, FW j → j < wr.heap.size) := ⟨fun j => (w6.heap.size ≤ j ∧ j < w7.heap.size) ∨ j ∈ u10.ownBlock.toList, hid (rd_cp RW.out UR.out (fun j hj => Or.inl hj) (fun j hj => Or.inr hj)), hid (fun j hj => by
        have h1 := UR.out.size
        rcases hj with hj | hj
        · omega
        · exact ownsRow_lt hown2.out j hj)⟩
      have H9 := hid (H6.out.up (U7.out.trans (UR.out.mono U7.out.size)))
      have AB9 := hid (Ab.below (M := w1.heap.size) (U7.out.trans (UR.out.mono U7.out.size)))
      obtain ⟨adv, capv, rfl⟩ := own_slice2 hown2.out
      have CS := hid (ksorted_any 2 _ wr _ (setZ l) QW.out (by omega))
      clear hls hown hls2 hown2 hl24
      go_wp2_with fail
      go_at_call 10
      refine CS.out.mono ?_
      rintro e w10 ⟨v10, rfl, u10', hr10, hn10⟩
      obtain ⟨FV, Q10, B10⟩ : ∃ FV : Nat → Prop, Hid (Rd w10 FV 3 v10 (desZ l)) ∧ Hid (∀ j, FV j → j < w10.heap.size) := ⟨fun j => FW j ∨ j ∈ v10.ownBlock.toList, hid (rd_cp hr10 u10' (fun j hj => Or.inl hj) (fun j hj => Or.inr hj)), hid (fun j hj => by
        have h2 := u10'.size
        rcases hj with hj | hj
        · have := BW.out j hj; omega
        · exact (hn10.2 j hj).2)⟩
      obtain ⟨ad10, cap10, rfl⟩ := Q10.out.slice
      have HZ := hid (desZ_ok HDE.out)
      have CE := hid (Encode_any 3 (Nat.le_refl _) _ w10 _ (desZ l) B10.out Q10.out (fun _ => Nat.le_trans HZ.out.2.2.1 (by decide)))
      have H10 := hid (H9.out.up u10')
      have AB10 := hid (AB9.out.trans (Ab.below u10'))
      clear CS hr10 hn10 u10' QW RW BW H9 AB9
      go_wp2_with fail
      go_at_call 9
      refine CE.out.mono ?_
      rintro e w11 ⟨u11, ⟨hbad, _⟩ | ⟨_, rfl⟩⟩
      · exact absurd HZ.out.1 hbad
      have H11 := hid (H10.out.up u11)
      have AB11 := hid (AB10.out.trans (Ab.below u11))
      have b0 := H11.out.1.at (i := 0) rfl
      have VD := hid (HV.out.up H11.out.2.2.2.2.2.2.2)
      have CT := hid (Store_any F w11 a m T A (wrS false 0 3 (desZ l)) H11.out.2.1 (fun j hj => by obtain ⟨q1, q2, q3, _⟩ := H11.out.2.2.2.1 j hj; exact ⟨q1, q2, q3⟩) HG.out VD.out.1 VD.out.2.1 (by omega))
      have hAl : A.length < 48 := by omega
      obtain ⟨st1, st2⟩ := sto_z HD.out hAl HDE.out
      rw [st1, st2] at CT
      have GZ := hid (good_z HG.out HD.out hAl HDE.out)
      have LZ := hid (show (ansS (A ++ [desZ l]) 0 (askQ 0 (fun _ => []) xsZ)).length = X0.length + 1 by rw [ans_z GZ.out, cnt_z HD.out HDE.out (by omega), ← AN.out])
      have OZ := hid (out_zz HD.out HDE.out)
      have CZ := hid (fun i (hi : i < 4) => cnt_z HD.out HDE.out hi)
      clear CE u11 st1 st2 H10 AB10 VD
      generalize bs (wrS false 0 3 (desZ l)) = sz at CT ⊢
      generalize HAZ : A ++ [desZ l] = AZ at CT GZ LZ OZ CZ
      have hAZ := hid HAZ
      clear HAZ
      go_wp2_with fail
      go_at_call 11
      refine CT.out.mono ?_
      rintro e w12 ⟨rfl, k12, o12, s12, T', hT1', hT2', hP12⟩
      have H12 := hid (BkI.arch H11.out k12 o12 s12 hP12)
      have AB12 := hid (AB11.out.trans ⟨s12, fun j h1 h2 => k12 j h2 (by omega) (by omega)⟩)
      clear k12 o12 s12 hP12 CT b0 H11 AB11
      go_wp2_with fail
      go_at_call 6
      refine (BA.out w12 T' _ AZ H12.out GZ.out).mono ?_
      rintro e w13 ⟨v15, rfl, u13, hb13, hr13⟩
      have H13 := hid hb13
      have AB13 := hid (AB12.out.trans (Ab.upB u13 hBl))
      obtain ⟨ad15, cap15, rfl⟩ := hr13.slice
      rw [LZ.out]
      have b0 := H13.out.1.at (i := 0) rfl
      have CC := hid (Count_any 1 _ w13 _ _ _ AZ H13.out.2.1 GZ.out (HV.out.2.1.up H13.out.2.2.2.2.2.2.2))
      clear u13 hb13 hr13 H12 AB12
      go_wp2_with fail
      go_at_call 7
      refine CC.out.mono ?_
      rintro e w14 ⟨rfl, u14⟩
      unfold arr4
      clear CC b0
      go_upto_region 20 with fail
      have u15 := Below.alloc (Below.refl w14.heap.size w14) (Nat.le_refl _) (.cells #[.int .i64 (cntA (n := 2) AZ 0 : Int), .int .i64 (cntA (n := 2) AZ 1 : Int), .int .i64 (cntA (n := 2) AZ 2 : Int), .int .i64 (cntA (n := 2) AZ 3 : Int)] 36)
      have N15 : F4 (w14.alloc (.cells #[.int .i64 (cntA (n := 2) AZ 0 : Int), .int .i64 (cntA (n := 2) AZ 1 : Int), .int .i64 (cntA (n := 2) AZ 2 : Int), .int .i64 (cntA (n := 2) AZ 3 : Int)] 36)) w14.heap.size (fun i => (cntA (n := 2) AZ i : Int)) := heap_alloc_new _ _
      generalize w14.alloc (.cells #[.int .i64 (cntA (n := 2) AZ 0 : Int), .int .i64 (cntA (n := 2) AZ 1 : Int), .int .i64 (cntA (n := 2) AZ 2 : Int), .int .i64 (cntA (n := 2) AZ 3 : Int)] 36) = w15 at u15 N15 ⊢
      have H15 := hid ((H13.out.up u14).up u15)
      have AB15 := hid ((AB13.out.trans (Ab.below u14)).trans (Ab.below u15))
      have NN15 := hid (N15.congr (g := fun i => (cntA (n := 2) A i : Int) + 1) (fun i hi => by show ((cntA (n := 2) AZ i : Nat) : Int) = _; rw [CZ.out i hi]; rfl))
      have S14 := hid (show w1.heap.size ≤ w14.heap.size from Nat.le_trans (Nat.le_trans S6.out AB13.out.1) u14.size)
      have b0 := H15.out.1.at (i := 0) rfl
      have CD := hid (Delete_any 1 _ w15 a m T' AZ [55] H15.out.2.1 (fun j hj => ⟨(H15.out.2.2.2.1 j hj).1, (H15.out.2.2.2.1 j hj).2.2.1⟩) GZ.out.2.1 GZ.out.1 (by decide))
      rw [OZ.out, show decide (A.length < AZ.length) = true from by rw [← hAZ.out, List.length_append]; exact decide_eq_true (Nat.lt_succ_self _)] at CD
      clear u14 u15 N15 H13 AB13
      go_wp2_with fail
      go_at_call 12
      refine CD.out.mono ?_
      rintro e w16 ⟨rfl, u16, hP16⟩
      have H16 := hid (BkI.arch H15.out (fun j hj _ hjm => u16.block hj hjm) u16.1 u16.size hP16)
      have AB16a := hid (show Ab w1.heap.size w15 w16 from Ab.upB u16 hml)
      have AB16 := hid (AB15.out.trans AB16a.out)
      clear u16 hP16 CD b0 H15 AB15
      go_wp2_with fail
      go_at_call 6
      refine (BA.out w16 T' _ A H16.out HG.out).mono ?_
      rintro e w17 ⟨v18, rfl, u17, hb17, hr17⟩
      rw [HX] at hr17
      have H17 := hid hb17
      have R17 := hid hr17
      have AB17a := hid (AB16a.out.trans (Ab.upB u17 hBl))
      have AB17 := hid (AB16.out.trans (Ab.upB u17 hBl))
      have S16 := hid (show w1.heap.size ≤ w16.heap.size from Nat.le_trans S6.out AB16.out.1)
      obtain ⟨ad18, cap18, rfl⟩ := hr17.slice
      have b0 := H17.out.1.at (i := 0) rfl
      have CC := hid (Count_any 1 _ w17 _ _ _ A H17.out.2.1 HG.out (HV.out.2.1.up H17.out.2.2.2.2.2.2.2))
      clear u17 hb17 hr17 H16 AB16 AB16a
      go_wp2_with fail
      go_at_call 7
      refine CC.out.mono ?_
      rintro e w18 ⟨rfl, u18⟩
      unfold arr4
      clear CC b0
      go_upto_region 23 with fail
      have u19 := Below.alloc (Below.refl w18.heap.size w18) (Nat.le_refl _) (.cells #[.int .i64 (cntA (n := 2) A 0 : Int), .int .i64 (cntA (n := 2) A 1 : Int), .int .i64 (cntA (n := 2) A 2 : Int), .int .i64 (cntA (n := 2) A 3 : Int)] 36)
      have N19 : F4 (w18.alloc (.cells #[.int .i64 (cntA (n := 2) A 0 : Int), .int .i64 (cntA (n := 2) A 1 : Int), .int .i64 (cntA (n := 2) A 2 : Int), .int .i64 (cntA (n := 2) A 3 : Int)] 36)) w18.heap.size (fun i => (cntA (n := 2) A i : Int)) := heap_alloc_new _ _
      generalize w18.alloc (.cells #[.int .i64 (cntA (n := 2) A 0 : Int), .int .i64 (cntA (n := 2) A 1 : Int), .int .i64 (cntA (n := 2) A 2 : Int), .int .i64 (cntA (n := 2) A 3 : Int)] 36) = w19 at u19 N19 ⊢
      have H19 := hid ((H17.out.up u18).up u19)
      have R19 := hid ((R17.out.up u18).up u19)
      have AB19 := hid ((AB17.out.trans (Ab.below u18)).trans (Ab.below u19))
      have AB19a := hid ((AB17a.out.trans (Ab.below u18)).trans (Ab.below u19))
      have R0 := hid (AB19.out.rdI R6.out hF7.out)
      have NA := hid (AB19.out.f4 NN6.out S5.out)
      have NM := hid (AB19a.out.f4 NN15.out S14.out)
      have b2 := H19.out.1.at (i := 2) rfl
      have n0 : w19.cell? ⟨w5.heap.size, 0, none⟩ = some (.int .i64 (cntA (n := 2) A 0 : Int)) := (NA.out.cell (k := 0) (by omega)).1
      have k0 : w19.cell? ⟨w18.heap.size, 0, none⟩ = some (.int .i64 (cntA (n := 2) A 0 : Int)) := (N19.cell (k := 0) (by omega)).1
      have n1 : w19.cell? ⟨w5.heap.size, 1, none⟩ = some (.int .i64 (cntA (n := 2) A 1 : Int)) := (NA.out.cell (k := 1) (by omega)).1
      have k1 : w19.cell? ⟨w18.heap.size, 1, none⟩ = some (.int .i64 (cntA (n := 2) A 1 : Int)) := (N19.cell (k := 1) (by omega)).1
      have n2 : w19.cell? ⟨w5.heap.size, 2, none⟩ = some (.int .i64 (cntA (n := 2) A 2 : Int)) := (NA.out.cell (k := 2) (by omega)).1
      have k2 : w19.cell? ⟨w18.heap.size, 2, none⟩ = some (.int .i64 (cntA (n := 2) A 2 : Int)) := (N19.cell (k := 2) (by omega)).1
      have n3 : w19.cell? ⟨w5.heap.size, 3, none⟩ = some (.int .i64 (cntA (n := 2) A 3 : Int)) := (NA.out.cell (k := 3) (by omega)).1
      have k3 : w19.cell? ⟨w18.heap.size, 3, none⟩ = some (.int .i64 (cntA (n := 2) A 3 : Int)) := (N19.cell (k := 3) (by omega)).1
      have hs4 := same4 (cntA (n := 2) A 0) (cntA (n := 2) A 1) (cntA (n := 2) A 2) (cntA (n := 2) A 3)
      have hX48 : X0.length ≤ 48 := by
        have h1 := AN.out
        have h2 := cntA_le (n := 2) A 0
        omega
      have hl1 : (((X0.length + 1 : Nat) : Int) != (X0.length : Int) + 1) = false := by simp
      have CB := hid (fun i => show (cntA (n := 2) A i : Int) ≤ 48 by have := cntA_le (n := 2) A i; omega)
      clear u18 u19 N19 H17 R17 AB17 AB17a
      go_wp2_with fail
      clear n0 n1 n2 n3 k0 k1 k2 k3 b2 hs4 hl1
      go_loopw [20] (fun i wq => ∃ q : Nat, q ≤ 4 ∧ i = .int .i64 q ∧ Hid (Below w19.heap.size w19 wq)) (fun i _ => 4 - (intOf i).toNat)
      case atStart => exact ⟨0, by omega, rfl, Below.refl _ _⟩
      case round =>
        obtain ⟨q, hq, rfl, hW⟩ := hrel
        obtain ⟨wQ, rfl⟩ : ∃ wQ, wQ = wr := ⟨_, rfl⟩
        by_cases hq4 : q < 4
        · have hq4i : (q : Int) < 4 := by omega
          have nq : wQ.cell? ⟨w5.heap.size, q, none⟩ = some (.int .i64 (cntA (n := 2) A q : Int)) := ((NA.out.keep (hW.out.block _ NA.out.lt)).cell hq4).1
          have mq : wQ.cell? ⟨w14.heap.size, q, none⟩ = some (.int .i64 ((cntA (n := 2) A q : Int) + 1)) := ((NM.out.keep (hW.out.block _ NM.out.lt)).cell hq4).1
          have cb := CB.out q
          generalize cntA (n := 2) A q = cq at nq mq cb
          go_wp2_with fail
          go_quiet (fail)
          go_wp2
          go_roundw
          case rel => exact ⟨q + 1, by omega, by go_num, below_drewN hW.out _⟩
          case measure => simp [intOf]; omega
        · obtain rfl : q = 4 := by omega
          go_wp2_with fail
          go_loopw [21] (fun i wq => ∃ k : Nat, k ≤ X0.length ∧ i = .int .i64 k ∧ Hid (Below w19.heap.size w19 wq)) (fun i _ => X0.length - (intOf i).toNat)
          case atStart => exact ⟨0, Nat.zero_le _, rfl, hW⟩
          case round =>
            obtain ⟨k, hk, rfl, hV⟩ := hrel
            by_cases hkl : k < X0.length
            · obtain ⟨a5, ad9, cap9, rfl, _, c5, hrd5⟩ := RdI.at (R19.out.up hV.out) (List.getElem?_eq_getElem hkl)
              obtain ⟨a6, ad6, cap6, rfl, _, c6, hrd6⟩ := RdI.at (R0.out.up hV.out) (List.getElem?_eq_getElem hkl)
              have er := hid (AE.out _ (List.getElem_mem hkl))
              generalize X0[k] = x at c5 c6 hrd5 hrd6 er
              have hk2 : (k : Int) < X0.length := by omega
              have CSm := hid (fun W (hW : Below wr.heap.size wr W) => ksame_any 3 _ _ W _ _ x 0 (hrd5.up hW) (hrd6.up hW) er.out (by omega) (by omega))
              have KS := hid (show ∀ W, Below wr.drew.heap.size wr.drew W → W.cell? (a5.add k) = some (.slice ad9 x.length cap9) ∧ W.cell? (a6.add k) = some (.slice ad6 x.length cap6) from fun W hW => ⟨(hW.cell (World.block_lt_of_cell? wr _ c5)).trans c5, (hW.cell (World.block_lt_of_cell? wr _ c6)).trans c6⟩)
              clear hrd5 hrd6
              go_wp2_with fail
              go_region_held3 (fun W => W.cell? (a5.add k) = some (.slice ad9 x.length cap9) ∧ W.cell? (a6.add k) = some (.slice ad6 x.length cap6)) (first | go_keep | exact KS.out _ (by assumption)) (first | (go_at_call 13; refine (CSm.out _ (Below.drew (Below.refl _ _))).mono ?_; rintro e wg ⟨rfl, ug⟩))
              have UG := hid (show Below wr.heap.size wr wg from (Below.drew (Below.refl wr.heap.size wr)).trans (show Below wr.drew.heap.size wr.drew wg from ug))
              have BG := hid (hV.out.trans (UG.out.mono hV.out.size))
              go_wp2
              go_roundw
              case rel =>
                (repeat apply Exists.intro)
                refine ⟨?_, rfl⟩
                exact ⟨k + 1, by omega, by go_num, BG⟩
              case measure => simp [intOf]; omega
            · obtain rfl : k = X0.length := by omega
              have HE := hid (show Below w.heap.size w wr from (H19.out.up hV.out).2.2.2.2.2.2.2)
              go_wp2
              go_ret
              exact ⟨rfl, HE.out⟩
end Go.Proofs.YtaokifbpakbgdabGreatDoor
