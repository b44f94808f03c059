/-
  Several texts in one; what each one has stands at its head.
-/
import Derived.Test.YtaokifbpakbgdaaGreatDoorKpD1
import Derived.Test.YtaokifbpakbgdaaGreatDoorPut16
import Derived.Test.YtaokifbpakbgdaaGreatDoorPut11
import Derived.Test.YtaokifbpakbgdaaGreatDoorPut17
/- Package foliokeep: the answers of a query, each read (book.answers). -/
namespace Go.Proofs.YtaokifbpakbgdaaGreatDoor
open Go.RowKit
theorem cls_set2 {w : World} {b : Nat} {T : TypeId} {x0 x1 x2 : Value} (h : cls w b #[x0, x1, x2] T) (u : Value) : cls (w.setCell ⟨b, 2, none⟩ u) b #[x0, x1, u] T := set_block h u
theorem cls_set1 {w : World} {b : Nat} {T : TypeId} {x0 x1 x2 : Value} (h : cls w b #[x0, x1, x2] T) (u : Value) : cls (w.setCell ⟨b, 1, none⟩ u) b #[x0, u, x2] T := set_block h u
/-- What comes out of 'answers': lists that read, in new blocks. -/
def AnsEnd (B : Nat) (xs : Array Value) (ls : List (List (El 3))) (w : World) (e : Ending) (w' : World) : Prop := ∃ v, e = .returned v ∧ UpB B w w' ∧ cls w' B xs 65 ∧ RdI w' (fun j => w.heap.size ≤ j ∧ j < w'.heap.size) 3 v ls
theorem ir_rd {w : World} {F : Nat → Prop} {T : TypeId} {v : Value} {ls : List (List (El 3))} {bl : List Nat} (h : Row w T 1 (IR 3 w) v ls bl) (hF : ∀ j ∈ bl, F j) : RdI w F 3 v ls := by
  refine Row.read h F hF _ (fun a c x b _ _ => ?_)
  rintro ⟨sv, rfl, ho⟩ _ hb hcell
  have c0 := hcell 0 _ rfl
  rw [Addr.add_zero'] at c0
  exact ⟨_, c0, ho.rd 3 _ _ _ F (fun j hj => hF j (hb j hj))⟩
/-- A set more. -/
theorem ans_more {B : Nat} {w2 wr w3 : World} {v sv : Value} {zs : List Value} {ls : List (List (El 3))} {cs bl : List Nat} {l : List (El 3)} (hB : B < w2.heap.size) (hli : Ls 1 (IR 3 wr) zs ls cs) (hni : New w2 wr (v.ownBlock.toList ++ cs)) (hU : UpB B w2 wr) (u3 : Below wr.heap.size wr w3) (how : Ow w3 3 sv l bl) (hbl : New wr w3 bl) (u : Value) :
    Ls 1 (IR 3 (w3.setCell ⟨B, 2, none⟩ u)) zs ls cs ∧ IR 3 (w3.setCell ⟨B, 2, none⟩ u) [sv] l bl ∧ New w2 (w3.setCell ⟨B, 2, none⟩ u) (v.ownBlock.toList ++ cs ++ bl) ∧ UpB B w2 (w3.setCell ⟨B, 2, none⟩ u) := by
  have hne : ∀ j, w2.heap.size ≤ j → (w3.setCell ⟨B, 2, none⟩ u).heap[j]? = w3.heap[j]? := fun j hj => Below.heap_setCell _ _ _ _ (by show j ≠ B; omega)
  have hz := hU.size
  refine ⟨hli.mono (fun c s b hb _ h => IR.keep _ _ _ _ _ h (fun j hj => ?_)), ⟨sv, rfl, how.keep 3 _ _ _ (fun j hj => hne j (by have := (hbl.2 j hj).1; omega))⟩, ?_, (hU.trans (UpB.of_below u3)).setCell (Or.inl rfl) u⟩
  · have h1 := hni.2 j (List.mem_append_right _ (hb j hj))
    exact (hne j h1.1).trans (u3.block j h1.2)
  · have hs : (w3.setCell ⟨B, 2, none⟩ u).heap.size = w3.heap.size := by simp
    exact (hni.add hbl hz u3.size).more (by rw [hs]; exact Nat.le_refl _)
set_option maxRecDepth 20000 in
set_option maxHeartbeats 4000000 in
theorem kanswers_any (F : Nat → Prop) (w : World) (B a m : Nat) (T : Int) (A : List (List (El 3))) (s : By) (fv : Value) (ls : List (List (El 3))) (h : ProA w F 1 a m T A) (hF : ∀ j, F j → j < w.heap.size) (hG : Good (n := 1) A) (hV : NamesV w) (hL : LevelsV w) (hC : CountsV w) (hv : Vars w)
    (hB : cls w B #[ptr a, fv, .bool true] 65) (hs : fndE s = 0) (hl : fndL A s = ls.map (fun l => wrS false 0 3 l)) (hln : ls.length ≤ 48) (hok : ∀ l ∈ ls, errS 3 0 l = 0 ∧ (wrS false 0 3 l).length ≤ 16384) :
    Calls Tryz.prog 30 #[ptr B, .string (bs s)] w (AnsEnd B #[ptr a, fv, .bool true] ls w) := by
  obtain ⟨i0, hi, hz0, hz1, hz2⟩ := info_parts info_set
  have HI := hid hi
  have CF := hid (Find_any F w a m T A s h hF hG hV hL hC hv)
  have HB := hid hB
  have HOK := hid hok
  clear hi h hF hG hV hL hC hv hok
  rw [hs, hl] at CF
  clear hs hl
  have b0 := hB.at (i := 0) rfl
  clear hB
  go_enter Tryz.func30, Tryz.ntmps30
  go_wp2_with fail
  go_at_call 36
  refine CF.out.mono ?_
  rintro e w1 ⟨v1, rfl, u1, hrow⟩
  have HB1 := HB.out.up u1
  have b2 := HB1.at (i := 2) rfl
  have f2 := HB1.free 2
  have R1 := hid hrow
  have RL := hid (fun j (hj : v1.ownBlock = some j) => (show w.heap.size ≤ j ∧ j < w1.heap.size from ⟨(R1.out.lt j hj).1, ownsRow_lt R1.out j (by simpa using hj)⟩))
  obtain ⟨ad1, cap1, rfl⟩ := row_sl hrow
  rw [List.length_map]
  clear b0 hrow CF
  go_wp2_with fail
  have HB2 := hid (cls_set2 HB1 (.bool true))
  have U2 := hid ((UpB.of_below (b := B) u1).setCell (p := ⟨B, 2, none⟩) (Or.inl rfl) (.bool true))
  have hBl := HB.out.lt
  have R2 := hid (show StrRow w.heap.size (w1.setCell ⟨B, 2, none⟩ (.bool true)) _ _ from ownsRow_keep R1.out (fun j hj => Below.heap_setCell _ _ _ _ (by have := (RL.out j (by simpa using hj)).1; show j ≠ B; omega)))
  have hz1' := u1.size
  have hz2' : (w1.setCell ⟨B, 2, none⟩ (.bool true)).heap.size = w1.heap.size := by simp
  generalize w1.setCell ⟨B, 2, none⟩ (.bool true) = w2 at HB2 U2 R2 hz2' ⊢
  clear b2 f2 HB1 u1 R1
  go_loopw [7, 8] (fun v i wr => ∃ (k : Nat) (adv : Option Addr) (capv : Nat) (zs : List Value) (cs : List Nat), k ≤ ls.length ∧ i = .int .i64 k ∧ v = .slice adv k capv ∧ Hid (wr.ownsRow 0 59 1 (.slice adv k capv) k zs) ∧ Hid (Ls 1 (IR 3 wr) zs (ls.take k) cs) ∧ Hid (New w2 wr ((Value.slice adv k capv).ownBlock.toList ++ cs)) ∧ Hid (UpB B w2 wr) ∧ Hid (cls wr B #[ptr a, fv, .bool true] 65)) (fun _ i _ => ls.length - (intOf i).toNat)
  case atStart => exact ⟨0, _, _, [], [], Nat.zero_le _, rfl, rfl, World.ownsRow_nil _ _ _ _, ⟨rfl, rfl⟩, ⟨List.nodup_nil, fun j hj => by cases hj⟩, UpB.refl _ _, HB2⟩
  case round =>
    obtain ⟨k, adv, capv, zs, cs, hk, rfl, rfl, hown, hls, hnew, hU, hB⟩ := hrel
    by_cases hkl : k < ls.length
    · have OS := hid (show wr.ownsRow w.heap.size 9 1 (.slice ad1 (ls.map (fun l => wrS false 0 3 l)).length cap1) (ls.map (fun l => wrS false 0 3 l)).length ((ls.map (fun l => wrS false 0 3 l)).map (fun s => .string (bs s))) from ownsRow_keep R2.out (fun j hj => hU.out.block (by have := (RL.out j (by simpa using hj)).2; omega) (by have := (RL.out j (by simpa using hj)).1; omega)))
      obtain ⟨g, cap9, eq9, c9⟩ := str_at OS.out (by rw [List.length_map]; exact hkl : k < (ls.map (fun l => wrS false 0 3 l)).length)
      rw [List.getElem_map] at c9
      obtain ⟨rfl, _, rfl⟩ := Value.slice.inj eq9
      have hmem := hid (List.getElem_mem hkl)
      have htk := hid (List.take_succ_eq_append_getElem hkl)
      generalize ls[k] = l at c9 hmem htk
      obtain ⟨e1, e2⟩ := HOK.out l hmem.out
      obtain ⟨p1, p2⟩ := way_parse e1 e2
      clear eq9
      go_wp2_with fail
      go_at_call 58
      refine (Decode_any wr 3 (by decide) (wrS false 0 3 l)).mono ?_
      rintro e9 w3 ⟨u3, ⟨hbad, _⟩ | ⟨_, l', v9, bl, hp, _, rfl, how, hbl⟩⟩
      · exact absurd p2 hbad
      obtain rfl : l = l' := Option.some.inj (p1.symm.trans hp)
      have HB3 := hB.out.up u3
      have b2 := HB3.at (i := 2) rfl
      have f2 := HB3.free 2
      have HB4 := hid (cls_set2 HB3 (.bool true))
      have M4 := hid (ans_more (B := B) (by have := HB2.out.lt; exact this) hls.out hnew.out hU.out u3 how hbl (.bool true))
      have O4 := hid (show (w3.setCell ⟨B, 2, none⟩ (.bool true)).ownsRow 0 59 1 (.slice adv k capv) k zs from ownsRow_keep hown.out (fun j hj => by
        have h1 := hnew.out.2 j (List.mem_append_left _ hj)
        have h2 := HB2.out.lt
        exact (Below.heap_setCell _ _ _ _ (by show j ≠ B; omega)).trans (u3.block j h1.2)))
      obtain ⟨ad9, cap9', rfl⟩ := how.slice
      clear HB3 hown hls hnew hU hB OS p1 p2 e1 e2 hp how hbl c9
      go_wp2_with (at_builtin; refine wpList_append_sep _ rfl _ _ 75 rfl 59 i0 (.slice none 0 0) 1 24 Tryz.underlying75 HI.out hz0 hz1 hz2 rfl (by decide) _ _ _ rfl (O4.out.alloc _) ⟨w3.heap.size, 0, none⟩ 1 1 [.slice ad9 l.length cap9'] rfl rfl (one_at' _ _ _ _ (by simp)) (by intro u hu; simp at hu; subst hu; rfl) (by unfold maxLen; omega) (by omega) ?_)
      intro v8 w8 hown8 hg8 hm8
      generalize w3.setCell ⟨B, 2, none⟩ (.bool true) = w4 at HB4 M4 O4 hown8 hg8 hm8
      obtain ⟨P1, P2, P3⟩ := Row.push (R := IR 3) (w := w4) IR.keep M4.out.1 rfl M4.out.2.1 M4.out.2.2.2.size M4.out.2.2.1 (by rw [List.length_take, Nat.min_eq_left hk]; exact hown8) hg8 hm8
      have HP1 := hid P1
      have HP3 := hid P3
      have hBl2 := HB2.out.lt
      have hown9 := hid hown8
      have HU8 := hid ((M4.out.2.2.2.alloc (.cells #[.slice ad9 l.length cap9'] 59)).grown hg8 (fun j hj => Or.inr (M4.out.2.2.1.2 j (List.mem_append_left _ (List.mem_append_left _ (by rw [hj]; simp)))).1))
      have HB8 := hid (HB4.out.keep ((hg8.block B (by have := HB4.out.lt; simp; omega) (fun e => by have := (M4.out.2.2.1.2 B (List.mem_append_left _ (List.mem_append_left _ (by rw [← e]; simp)))).1; omega)).trans (Below.heap_alloc _ _ _ HB4.out.lt)))
      obtain ⟨ad8, cap8, rfl⟩ := own_slice2 hown8
      clear P1 P2 P3 hown8 hg8 hm8 M4 O4 HB4
      go_wp2
      go_roundw
      case rel =>
        refine ⟨k + 1, _, _, _, _, by omega, by go_num, rfl, hown9, ?_, HP3, HU8, HB8⟩
        unfold Hid
        rw [htk.out]
        exact HP1.out
      case measure => simp [intOf]; omega
    · obtain rfl : k = ls.length := by omega
      have E1 := hid (ir_rd (F := fun j => w.heap.size ≤ j ∧ j < wr.heap.size) (⟨zs, cs, hown.out, by have := hls.out; rw [List.take_length] at this; exact this, rfl⟩ : Row wr 59 1 (IR 3 wr) _ ls _) (fun j hj => by have := hnew.out.2 j hj; omega))
      go_wp2
      go_ret
      exact ⟨_, rfl, U2.out.trans hU.out, hB.out, E1.out⟩
end Go.Proofs.YtaokifbpakbgdaaGreatDoor

/- What is laid in and taken out, of descriptions out of numbers (no program in it). -/
namespace Go.Proofs.YtaokifbpakbgdaaGreatDoor
open Go.RowKit
/-- A name tells those above it. -/
theorem desc_up {l l' : List (El 3)} (h : Desc l) (h' : Desc l') {i : Nat} (hi : i < 3) (he : nm (n := 2) (i + 1) l = nm (n := 2) (i + 1) l') : nm (n := 2) i l = nm (n := 2) i l' := by
  obtain ⟨_, _, _, _, p, s, e, c, hn, hk⟩ := h
  obtain ⟨_, _, _, _, p', s', e', c', hn', hk'⟩ := h'
  rw [hk _ (by omega), hk' _ (by omega)] at he ⊢
  rcases (show i = 0 ∨ i = 1 ∨ i = 2 by omega) with rfl | rfl | rfl
  · exact nmP_up1 hn hn' he
  · exact nmP_up2 hn hn' he
  · exact nmP_up3 hn hn' he
theorem desc_nm {l : List (El 3)} (h : Desc l) {i : Nat} (hi : i < 4) : NmOk (kindT (nameT i)) (nm (n := 2) i l) := by
  obtain ⟨_, _, _, _, p, s, e, c, hn, hk⟩ := h
  rw [hk i hi]
  exact nmP_ok hn i hi
theorem no_clash {A : List (List (El 3))} {l : List (El 3)} (hA : ∀ o ∈ A, Desc o) (hl : Desc l) (s : By) : (outA A s).any (clash l) = false := by
  rw [List.any_eq_false]
  intro o ho
  have hd := hA o (List.mem_filter.1 ho).1
  unfold clash
  by_cases h2 : nm (n := 2) 2 o = nm (n := 2) 2 l
  · have h1 := desc_up hd hl (i := 1) (by omega) h2
    have h0 := desc_up hd hl (i := 0) (by omega) h1
    simp [h2, h1, h0]
  · by_cases h1 : nm (n := 2) 1 o = nm (n := 2) 1 l
    · have h0 := desc_up hd hl (i := 0) (by omega) h1
      simp [h2, h1, h0]
    · simp [h2, h1]
theorem lay_desc {A : List (List (El 3))} {l : List (El 3)} (hA : ∀ o ∈ A, Desc o) (hl : Desc l) : layE A l = if 48 ≤ (outA A (nm 3 l)).length then 9 else 0 := by
  unfold layE
  rw [if_neg (fun h => h hl.2.1), if_neg (by rw [no_clash hA hl]; decide)]
theorem sto_desc {A : List (List (El 3))} {l : List (El 3)} (hl : Desc l) : stoE A (wrS false 0 3 l) = layE A l ∧ stoA A (wrS false 0 3 l) = layA A l := by
  obtain ⟨p1, p2⟩ := way_parse hl.1 hl.2.2.1
  unfold stoE stoA
  rw [if_neg (fun h => h p2), if_neg (fun h => h p2), p1]
  exact ⟨rfl, rfl⟩
theorem outA_none {n : Nat} {A : List (List (El (n + 1)))} {s : By} (h : ∀ o ∈ A, nm 3 o ≠ s) : outA A s = A := by
  unfold outA
  exact List.filter_eq_self.2 (fun o ho => by simpa using h o ho)
theorem outA_at {n : Nat} {s : By} : ∀ {A : List (List (El (n + 1)))} {i : Nat} {o : List (El (n + 1))}, (A.map (nm 3)).Nodup → A[i]? = some o → nm 3 o = s → outA A s = A.take i ++ A.drop (i + 1)
  | [], i, o, _, hi, _ => by simp at hi
  | x :: A, 0, o, hnd, hi, ho => by
    rw [List.getElem?_cons_zero] at hi
    obtain rfl := Option.some.inj hi
    rw [List.map_cons, List.nodup_cons] at hnd
    have : outA A s = A := outA_none (fun y hy e => hnd.1 (by rw [ho, ← e]; exact List.mem_map_of_mem hy))
    show (x :: A).filter _ = _
    rw [List.filter_cons_of_neg (by simp [ho])]
    exact this
  | x :: A, i + 1, o, hnd, hi, ho => by
    rw [List.getElem?_cons_succ] at hi
    rw [List.map_cons, List.nodup_cons] at hnd
    have hx : nm 3 x ≠ s := fun e => hnd.1 (by rw [e, ← ho]; exact List.mem_map_of_mem (List.mem_of_getElem? hi))
    have ih := outA_at hnd.2 hi ho
    show (x :: A).filter _ = _
    rw [List.filter_cons_of_pos (by simpa using hx), List.take_succ_cons, List.drop_succ_cons, List.cons_append]
    exact congrArg _ ih
/-- Where a picture lies: its place, or none. -/
def AtI (A : List (List (El 3))) (s : By) (k : Nat) (z : Int) : Prop := (z = -1 ∧ ∀ o ∈ A.take k, nm (n := 2) 3 o ≠ s) ∨ ∃ (i : Nat) (o : List (El 3)), z = i ∧ i < k ∧ A[i]? = some o ∧ nm (n := 2) 3 o = s
theorem AtI.zero (A : List (List (El 3))) (s : By) : AtI A s 0 (-1) := Or.inl ⟨rfl, fun o ho => by simp at ho⟩
theorem AtI.yes {A : List (List (El 3))} {s : By} {k : Nat} {o : List (El 3)} (ho : A[k]? = some o) (h : nm (n := 2) 3 o = s) : AtI A s (k + 1) k := Or.inr ⟨k, o, rfl, by omega, ho, h⟩
theorem AtI.no {A : List (List (El 3))} {s : By} {k : Nat} {z : Int} {o : List (El 3)} (hz : AtI A s k z) (ho : A[k]? = some o) (h : nm (n := 2) 3 o ≠ s) : AtI A s (k + 1) z := by
  rcases hz with ⟨rfl, hz⟩ | ⟨i, o', rfl, h1, h2, h3⟩
  · refine Or.inl ⟨rfl, fun x hx => ?_⟩
    rw [List.take_add_one, ho] at hx
    rcases List.mem_append.1 hx with hx | hx
    · exact hz x hx
    · simp at hx; subst hx; exact h
  · exact Or.inr ⟨i, o', rfl, by omega, h2, h3⟩
theorem AtI.end {A : List (List (El 3))} {s : By} {z : Int} (h : AtI A s A.length z) (hnd : (A.map (nm (n := 2) 3)).Nodup) : (z = -1 ∧ outA A s = A) ∨ ∃ i : Nat, z = i ∧ i < A.length ∧ outA A s = A.take i ++ A.drop (i + 1) := by
  rcases h with ⟨rfl, h⟩ | ⟨i, o, rfl, h1, h2, h3⟩
  · exact Or.inl ⟨rfl, outA_none (by rw [List.take_length] at h; exact h)⟩
  · exact Or.inr ⟨i, rfl, h1, outA_at hnd h2 h3⟩
/-- What lies there after a picture was taken: it is gone, or laid in. -/
def takeA (A : List (List (El 3))) (gone : Bool) (l : List (El 3)) : List (List (El 3)) := if gone = true then outA A (nm (n := 2) 3 l) else layA A l
theorem takeA_mem {A : List (List (El 3))} {g : Bool} {l o : List (El 3)} (h : o ∈ takeA A g l) : o ∈ A ∨ o = l := by
  unfold takeA layA at h
  split at h
  · exact Or.inl (List.mem_filter.1 h).1
  · split at h
    · rcases List.mem_append.1 h with h | h
      · exact Or.inl (List.mem_filter.1 h).1
      · exact Or.inr (List.mem_singleton.1 h)
    · exact Or.inl h
theorem takeA_desc {A : List (List (El 3))} (hA : ∀ o ∈ A, Desc o) {g : Bool} {l : List (El 3)} (hl : Desc l) : ∀ o ∈ takeA A g l, Desc o := fun o ho => by
  rcases takeA_mem ho with h | h
  · exact hA o h
  · rw [h]; exact hl
theorem takeA_good {A : List (List (El 3))} (hA : Good (n := 1) A) {g : Bool} {l : List (El 3)} (hl : Desc l) : Good (n := 1) (takeA A g l) := by
  unfold takeA
  split
  · exact hA.out _
  · exact hA.lay hl.1
end Go.Proofs.YtaokifbpakbgdaaGreatDoor

/- Package foliokeep: a book in memory: an archive, and the facts that lie in it. -/
namespace Go.Proofs.YtaokifbpakbgdaaGreatDoor
open Go.RowKit
/-- The cells of a fact: its names, and its set. -/
def FcC (w : World) (G : Nat → Prop) (c : List Value) (l : List (El 3)) (b : List Nat) : Prop := b = [] ∧ ∃ sv, c = [.string (bs (nm (n := 2) 0 l)), .string (bs (nm (n := 2) 1 l)), .string (bs (nm (n := 2) 2 l)), .string (bs (nm (n := 2) 3 l)), sv] ∧ Rd w G 3 sv l
theorem FcC.keep {w w' : World} {G G' : Nat → Prop} {c : List Value} {l : List (El 3)} {b : List Nat} (h : FcC w G c l b) (hlo : ∀ j, G j → G' j) (hk : ∀ j, G j → j < w.heap.size → w'.heap[j]? = w.heap[j]?) : FcC w' G' c l b := by
  obtain ⟨h1, sv, h2, h3⟩ := h
  exact ⟨h1, sv, h2, h3.keep hlo hk⟩
theorem fcs_keep {w w' : World} {G G' : Nat → Prop} {xs : List Value} {A : List (List (El 3))} (h : Ls 5 (FcC w G) xs A []) (hlo : ∀ j, G j → G' j) (hk : ∀ j, G j → j < w.heap.size → w'.heap[j]? = w.heap[j]?) : Ls 5 (FcC w' G') xs A [] :=
  h.mono (fun _ _ _ _ _ k => k.keep hlo hk)
/-- A block that none of the others is. -/
def Fr (w : World) (B a m : Nat) (fv : Value) (j : Nat) : Prop := j < w.heap.size ∧ j ≠ a ∧ j ≠ m ∧ j ≠ B ∧ j ∉ fv.ownBlock.toList
/-- A book: A' lies in its archive, A are its facts. -/
def BkI (w0 w : World) (B a m : Nat) (T : Int) (F G : Nat → Prop) (fv : Value) (A' A : List (List (El 3))) : Prop :=
  cls w B #[ptr a, fv, .bool true] 65 ∧ ProA w F 1 a m T A' ∧ (∃ xs, w.ownsRow 0 61 5 fv A.length xs ∧ Ls 5 (FcC w G) xs A []) ∧ (∀ j, F j → Fr w B a m fv j) ∧ (∀ j, G j → Fr w B a m fv j) ∧
  (a ≠ B ∧ m ≠ B ∧ ∀ j ∈ fv.ownBlock.toList, j ≠ a ∧ j ≠ m ∧ j ≠ B) ∧ (w0.heap.size ≤ a ∧ w0.heap.size ≤ m ∧ w0.heap.size ≤ B ∧ ∀ j ∈ fv.ownBlock.toList, w0.heap.size ≤ j) ∧ Below w0.heap.size w0 w
theorem BkI.up {w0 w w' : World} {B a m : Nat} {T : Int} {F G : Nat → Prop} {fv : Value} {A' A : List (List (El 3))} (h : BkI w0 w B a m T F G fv A' A) (k : Below w.heap.size w w') : BkI w0 w' B a m T F G fv A' A := by
  obtain ⟨h1, h2, ⟨xs, h3, h4⟩, h5, h6, h7, h8, h9⟩ := h
  have hs := k.size
  exact ⟨h1.up k, h2.up k, ⟨xs, ownsRow_keep h3 (fun j hj => k.block j (ownsRow_lt h3 j hj)), fcs_keep h4 (fun _ h => h) (fun j _ hj => k.block j hj)⟩, fun j hj => ⟨Nat.lt_of_lt_of_le (h5 j hj).1 hs, (h5 j hj).2⟩, fun j hj => ⟨Nat.lt_of_lt_of_le (h6 j hj).1 hs, (h6 j hj).2⟩, h7, h8, h9.trans (k.mono h9.size)⟩
/-- The archive is another one. -/
theorem BkI.arch {w0 w w' : World} {B a m : Nat} {T T' : Int} {F G : Nat → Prop} {fv : Value} {A' A'' A : List (List (El 3))} (h : BkI w0 w B a m T F G fv A' A) (hk : ∀ j, j < w.heap.size → j ≠ a → j ≠ m → w'.heap[j]? = w.heap[j]?) (ho : w'.os = w.os ∧ w'.tape = w.tape ∧ w'.output = w.output) (hs : w.heap.size ≤ w'.heap.size) (hP : ProA w' (Nw F w w') 1 a m T' A'') : BkI w0 w' B a m T' (Nw F w w') G fv A'' A := by
  obtain ⟨h1, h2, ⟨xs, h3, h4⟩, h5, h6, h7, h8, h9⟩ := h
  have hf : ∀ j ∈ fv.ownBlock.toList, w'.heap[j]? = w.heap[j]? := fun j hj => hk j (ownsRow_lt h3 j hj) (h7.2.2 j hj).1 (h7.2.2 j hj).2.1
  have ha := h2.1.lt
  have hm := h2.mlt
  refine ⟨h1.keep (hk B h1.lt (fun e => h7.1 e.symm) (fun e => h7.2.1 e.symm)), hP, ⟨xs, ownsRow_keep h3 hf, fcs_keep h4 (fun _ h => h) (fun j hj hl => hk j hl (h6 j hj).2.1 (h6 j hj).2.2.1)⟩, fun j hj => ?_, fun j hj => ⟨Nat.lt_of_lt_of_le (h6 j hj).1 hs, (h6 j hj).2⟩, h7, h8, ?_⟩
  · rcases hj with hj | ⟨hj, hj'⟩
    · exact ⟨Nat.lt_of_lt_of_le (h5 j hj).1 hs, (h5 j hj).2⟩
    · refine ⟨hj', by omega, by omega, by have := h1.lt; omega, fun hm => ?_⟩
      have := ownsRow_lt h3 j hm
      omega
  · exact ⟨ho.1.trans h9.os, ho.2.1.trans h9.tape, ho.2.2.trans h9.output, Nat.le_trans h9.size hs, fun j hj => (hk j (Nat.lt_of_lt_of_le hj h9.size) (by omega) (by omega)).trans (h9.block j hj)⟩
/-- What is kept where but the book's block has turned. -/
theorem BkI.atB {w0 w w' : World} {B a m : Nat} {T : Int} {F G : Nat → Prop} {fv : Value} {A' A : List (List (El 3))} (h : BkI w0 w B a m T F G fv A' A) (hu : UpB B w w') (hB : cls w' B #[ptr a, fv, .bool true] 65) : BkI w0 w' B a m T F G fv A' A := by
  obtain ⟨h1, h2, ⟨xs, h3, h4⟩, h5, h6, h7, h8, h9⟩ := h
  have hs := hu.size
  refine ⟨hB, h2.keep (hu.block h2.1.lt h7.1) (hu.block h2.mlt h7.2.1) (fun _ h => h) (fun j hj hl => hu.block hl (h5 j hj).2.2.2.1), ⟨xs, ownsRow_keep h3 (fun j hj => hu.block (ownsRow_lt h3 j hj) (h7.2.2 j hj).2.2), fcs_keep h4 (fun _ h => h) (fun j hj hl => hu.block hl (h6 j hj).2.2.2.1)⟩, fun j hj => ⟨Nat.lt_of_lt_of_le (h5 j hj).1 hs, (h5 j hj).2⟩, fun j hj => ⟨Nat.lt_of_lt_of_le (h6 j hj).1 hs, (h6 j hj).2⟩, h7, h8, h9.trans (hu.below h8.2.2.1 h9.size)⟩
theorem BkI.ok {w0 w : World} {B a m : Nat} {T : Int} {F G : Nat → Prop} {fv : Value} {A' A : List (List (El 3))} (h : BkI w0 w B a m T F G fv A' A) : BkI w0 (w.setCell ⟨B, 2, none⟩ (.bool true)) B a m T F G fv A' A :=
  h.atB ((UpB.refl B w).setCell (p := ⟨B, 2, none⟩) (Or.inl rfl) _) (cls_set2 h.1 _)
/-- The facts are others. -/
theorem BkI.facts {w0 w w' : World} {B a m : Nat} {T : Int} {F G G' : Nat → Prop} {fv fv' : Value} {A' A A2 : List (List (El 3))} {ys : List Value} (h : BkI w0 w B a m T F G fv A' A) (ho : w'.os = w.os ∧ w'.tape = w.tape ∧ w'.output = w.output) (hs : w.heap.size ≤ w'.heap.size) (hk : ∀ j, j < w.heap.size → j ∉ fv.ownBlock.toList → w'.heap[j]? = w.heap[j]?)
    (hown : w'.ownsRow 0 61 5 fv' A2.length ys) (hls : Ls 5 (FcC w' G') ys A2 []) (hm : Moved w fv fv') (hG : ∀ j, G' j → j ≠ a ∧ j ≠ m ∧ j ≠ B ∧ j < w'.heap.size ∧ j ∉ fv'.ownBlock.toList) :
    BkI w0 (w'.setCell ⟨B, 1, none⟩ fv') B a m T F G' fv' A' A2 := by
  obtain ⟨h1, h2, ⟨xs, h3, h4⟩, h5, h6, h7, h8, h9⟩ := h
  have ha := h2.1.lt
  have hmm := h2.mlt
  have hB := h1.lt
  have hnew : ∀ j ∈ fv'.ownBlock.toList, (j ∈ fv.ownBlock.toList ∨ w.heap.size ≤ j) := fun j hj => by
    rcases hm with e | e
    · rw [e] at hj; exact Or.inl hj
    · exact Or.inr (e j hj)
  have hne : ∀ j ∈ fv'.ownBlock.toList, j ≠ a ∧ j ≠ m ∧ j ≠ B := fun j hj => by
    rcases hnew j hj with h | h
    · exact h7.2.2 j h
    · exact ⟨by omega, by omega, by omega⟩
  have hsz : (w'.setCell ⟨B, 1, none⟩ fv').heap.size = w'.heap.size := by simp
  have hst : ∀ j, j ≠ B → (w'.setCell ⟨B, 1, none⟩ fv').heap[j]? = w'.heap[j]? := fun j hj => Below.heap_setCell _ _ _ _ (by exact hj)
  have hB' : cls w' B #[ptr a, fv, .bool true] 65 := h1.keep (hk B hB (fun hx => (h7.2.2 B hx).2.2 rfl))
  have hFx : ∀ j, F j → j ∉ fv'.ownBlock.toList := fun j hj hx => by
    rcases hnew j hx with h | h
    · exact (h5 j hj).2.2.2.2 h
    · have := (h5 j hj).1; omega
  have hax : a ∉ fv.ownBlock.toList := fun hx => (h7.2.2 a hx).1 rfl
  have hmx : m ∉ fv.ownBlock.toList := fun hx => (h7.2.2 m hx).2.1 rfl
  refine ⟨cls_set1 hB' fv', h2.keep ((hst a h7.1).trans (hk a ha hax)) ((hst m h7.2.1).trans (hk m hmm hmx)) (fun _ h => h) (fun j hj hl => (hst j (h5 j hj).2.2.2.1).trans (hk j hl (h5 j hj).2.2.2.2)), ⟨ys, ownsRow_keep hown (fun j hj => hst j (hne j hj).2.2), fcs_keep hls (fun _ h => h) (fun j hj _ => hst j ?_)⟩, fun j hj => ?_, fun j hj => ?_, ⟨h7.1, h7.2.1, hne⟩, ⟨h8.1, h8.2.1, h8.2.2.1, fun j hj => ?_⟩, ?_⟩
  · exact (hG j hj).2.2.1
  · rw [Fr, hsz]
    exact ⟨Nat.lt_of_lt_of_le (h5 j hj).1 hs, (h5 j hj).2.1, (h5 j hj).2.2.1, (h5 j hj).2.2.2.1, hFx j hj⟩
  · rw [Fr, hsz]
    obtain ⟨q1, q2, q3, q4, q5⟩ := hG j hj
    exact ⟨q4, q1, q2, q3, q5⟩
  · rcases hnew j hj with h | h
    · exact h8.2.2.2 j h
    · exact Nat.le_trans h9.size h
  · have hz := h8.2.2.1
    have h9s := h9.size
    refine ⟨ho.1.trans h9.os, ho.2.1.trans h9.tape, ho.2.2.trans h9.output, by rw [hsz]; omega, fun j hj => ?_⟩
    have hjB : j ≠ B := by omega
    exact (hst j hjB).trans ((hk j (by omega) (fun hx => by have := h8.2.2.2 j hx; omega)).trans (h9.block j hj))
/-- A fact's cells. -/
theorem BkI.at {w0 w : World} {B a m : Nat} {T : Int} {F G : Nat → Prop} {fv : Value} {A' A : List (List (El 3))} (h : BkI w0 w B a m T F G fv A' A) {k : Nat} {l : List (El 3)} (hk : A[k]? = some l) :
    ∃ g cap sv, fv = .slice (some ⟨g, 0, none⟩) A.length cap ∧ (∀ i, i < 4 → w.cell? ⟨g, k * 5 + i, none⟩ = some (.string (bs (nm (n := 2) i l)))) ∧ w.cell? ⟨g, k * 5 + 4, none⟩ = some sv ∧ Rd w G 3 sv l := by
  obtain ⟨_, _, ⟨xs, h3, h4⟩, _⟩ := h
  have hkl := (List.getElem?_eq_some_iff.1 hk).1
  obtain ⟨c, b, ⟨_, sv, rfl, hr⟩, _, _, hx⟩ := h4.at k l hk
  rcases id h3.2 with ⟨_, h1⟩ | ⟨g, cap, cur, e, _⟩
  · omega
  · subst e
    have hc : ∀ t u, ([.string (bs (nm (n := 2) 0 l)), .string (bs (nm (n := 2) 1 l)), .string (bs (nm (n := 2) 2 l)), .string (bs (nm (n := 2) 3 l)), sv] : List Value)[t]? = some u → w.cell? ⟨g, k * 5 + t, none⟩ = some u := fun t u hu => by
      have ht := (List.getElem?_eq_some_iff.1 hu).1
      have h5 : t < 5 := ht
      rw [h3.cellAt _ (by omega), Nat.mul_comm k 5]
      exact hx t u hu
    refine ⟨g, cap, sv, rfl, fun i hi => ?_, hc 4 _ rfl, hr⟩
    rcases (show i = 0 ∨ i = 1 ∨ i = 2 ∨ i = 3 by omega) with rfl | rfl | rfl | rfl
    · exact hc 0 _ rfl
    · exact hc 1 _ rfl
    · exact hc 2 _ rfl
    · exact hc 3 _ rfl
theorem Ls.split {α : Type} {k : Nat} {R : List Value → α → List Nat → Prop} : ∀ {l : List α} {xs : List Value}, Ls k R xs l [] → ∀ i, i ≤ l.length → ∃ x1 x2, xs = x1 ++ x2 ∧ Ls k R x1 (l.take i) [] ∧ Ls k R x2 (l.drop i) []
  | l, xs, h, 0, _ => ⟨[], xs, rfl, ⟨rfl, rfl⟩, h⟩
  | [], xs, h, i + 1, hi => by simp at hi
  | x :: l, xs, h, i + 1, hi => by
    obtain ⟨c, ys, b, cs, rfl, e2, h1, h2, e3⟩ := h
    obtain ⟨rfl, rfl⟩ := List.append_eq_nil_iff.1 e3.symm
    obtain ⟨x1, x2, rfl, k1, k2⟩ := Ls.split h2 i (by simpa using hi)
    exact ⟨c ++ x1, x2, by simp, ⟨c, x1, [], [], rfl, e2, h1, k1, rfl⟩, k2⟩
theorem fcs_one {w : World} {G : Nat → Prop} : ∀ {A : List (List (El 3))} {xs : List Value}, Ls 5 (FcC w G) xs A [] → ∀ u ∈ xs, u.oneCell' = true
  | [], xs, h, u, hu => by obtain ⟨rfl, _⟩ := h; cases hu
  | l :: A, xs, h, u, hu => by
    obtain ⟨c, ys, b, cs, rfl, e2, ⟨_, sv, rfl, hr⟩, h2, e3⟩ := h
    obtain ⟨rfl, rfl⟩ := List.append_eq_nil_iff.1 e3.symm
    rcases List.mem_append.1 hu with hu | hu
    · obtain ⟨ad, cap, rfl⟩ := hr.slice
      simp only [List.mem_cons, List.not_mem_nil, or_false] at hu
      rcases hu with rfl | rfl | rfl | rfl | rfl <;> rfl
    · exact fcs_one h2 u hu
/-- A fact is taken out of the row: what the two appends read, and what they leave. -/
theorem BkI.rm {w0 w : World} {B a m : Nat} {T : Int} {F G : Nat → Prop} {fv : Value} {A' A : List (List (El 3))} (h : BkI w0 w B a m T F G fv A' A) {i : Nat} (hi : i < A.length) :
    ∃ gf cap x1 x2, fv = .slice (some ⟨gf, 0, none⟩) A.length cap ∧ A.length ≤ cap ∧ x1.length = i * 5 ∧ x2.length = (A.length - (i + 1)) * 5 ∧ (∀ j u, x1[j]? = some u → w.cell? ((⟨gf, 0, none⟩ : Addr).add j) = some u) ∧ (∀ w5, w.grownBy w5 none → ∀ j u, x2[j]? = some u → w5.cell? ((⟨gf, (i + 1) * 5, none⟩ : Addr).add j) = some u) ∧ (∀ u ∈ x1, u.oneCell' = true) ∧ (∀ u ∈ x2, u.oneCell' = true) ∧
      ∀ w5 v5 w6 v6, w.grownBy w5 none → Moved w (.slice none 0 0) v5 → w6.ownsRow 0 61 5 v6 (i + (A.length - (i + 1))) (x1 ++ x2) → w5.grownBy w6 v5.ownBlock → Moved w5 v5 v6 → BkI w0 (w6.setCell ⟨B, 1, none⟩ v6) B a m T F G v6 A' (A.take i ++ A.drop (i + 1)) := by
  have hb := h
  obtain ⟨h1, h2, ⟨xs, h3, h4⟩, h5, h6, h7, h8, h9⟩ := h
  obtain ⟨x1, y1, rfl, k1, k2⟩ := h4.split i (by omega)
  obtain ⟨c, x2, rfl, k3, k4⟩ := k2.split 1 (by rw [List.length_drop]; omega)
  rw [List.drop_drop] at k4
  have l1 : x1.length = i * 5 := by rw [k1.length, List.length_take]; congr 1; omega
  have l3 : c.length = 5 := by rw [k3.length, List.length_take, List.length_drop, show min 1 (A.length - i) = 1 by omega]
  have l2 : x2.length = (A.length - (i + 1)) * 5 := by rw [k4.length, List.length_drop]
  have hone := fcs_one h4
  rcases id h3.2 with ⟨_, e0⟩ | ⟨g, cap, cur, e, _, hcap, _⟩
  · omega
  · subst e
    have hgl := ownsRow_lt h3 g (by simp [Value.ownBlock])
    refine ⟨g, cap, x1, x2, rfl, by omega, l1, l2, fun j u hu => ?_, fun w5 hg j u hu => ?_, fun u hu => hone u (by simp [hu]), fun u hu => hone u (by simp [hu]), fun w5 v5 w6 v6 hg hm5 hown hg6 hm6 => ?_⟩
    · have hj := (List.getElem?_eq_some_iff.1 hu).1
      rw [Addr.add_lit, Nat.zero_add, h3.cellAt _ (by omega), List.getElem?_append_left hj]
      exact hu
    · have hj := (List.getElem?_eq_some_iff.1 hu).1
      rw [Addr.add_lit, World.cell?_of_block (w := w) (hg.block g hgl (by simp)), h3.cellAt _ (by omega), ← List.append_assoc, List.getElem?_append_right (by rw [List.length_append, l1, l3]; omega), List.length_append, l1, l3, show (i + 1) * 5 + j - (i * 5 + 5) = j by omega]
      exact hu
    · have v5n : ∀ j ∈ v5.ownBlock.toList, w.heap.size ≤ j := fun j hj => by
        rcases hm5 with e | e
        · rw [e] at hj; cases hj
        · exact e j hj
      have v6n : ∀ j ∈ v6.ownBlock.toList, w.heap.size ≤ j := fun j hj => by
        rcases hm6 with e | e
        · rw [e] at hj; exact v5n j hj
        · exact Nat.le_trans hg.size (e j hj)
      have hk : ∀ j, j < w.heap.size → w6.heap[j]? = w.heap[j]? := fun j hj => (hg6.block j (Nat.lt_of_lt_of_le hj hg.size) (fun e => by have := v5n j (by rw [← e]; simp); omega)).trans (hg.block j hj (by simp))
      refine hb.facts (G' := G) ⟨hg6.os.trans hg.os, hg6.tape.trans hg.tape, hg6.output.trans hg.output⟩ (Nat.le_trans hg.size hg6.size) (fun j hj _ => hk j hj) (by rw [List.length_append, List.length_take, List.length_drop, show min i A.length = i by omega]; exact hown) (fcs_keep (Ls.app k4 k1) (fun _ h => h) (fun j _ hj => hk j hj)) (Or.inr v6n) (fun j hj => ?_)
      obtain ⟨q1, q2, q3, q4, _⟩ := h6 j hj
      exact ⟨q2, q3, q4, Nat.lt_of_lt_of_le q1 (Nat.le_trans hg.size hg6.size), fun hx => by have := v6n j hx; omega⟩
/-- A fact more. -/
theorem BkI.add {w0 w w1 w8 : World} {B a m : Nat} {T : Int} {F G G2 : Nat → Prop} {fv v8 sv : Value} {A' A : List (List (El 3))} {xs : List Value} {l : List (El 3)} (h : BkI w0 w B a m T F G fv A' A) (h4 : Ls 5 (FcC w G) xs A []) (u1 : Below w.heap.size w w1)
    (hown : w8.ownsRow 0 61 5 v8 (A.length + 1) (xs ++ [.string (bs (nm (n := 2) 0 l)), .string (bs (nm (n := 2) 1 l)), .string (bs (nm (n := 2) 2 l)), .string (bs (nm (n := 2) 3 l)), sv])) (hg : w1.grownBy w8 fv.ownBlock) (hm : Moved w1 fv v8) (hrd : Rd w G2 3 sv l) (hG2 : ∀ j, G2 j → Fr w B a m fv j) :
    BkI w0 (w8.setCell ⟨B, 1, none⟩ v8) B a m T F (fun j => G j ∨ G2 j) v8 A' (A ++ [l]) := by
  have hk : ∀ j, j < w.heap.size → j ∉ fv.ownBlock.toList → w8.heap[j]? = w.heap[j]? := fun j hj hx => (hg.block j (Nat.lt_of_lt_of_le hj u1.size) (fun e => hx (by rw [← e]; simp))).trans (u1.block j hj)
  have h6 := h.2.2.2.2.1
  have hm' : Moved w fv v8 := by
    rcases hm with e | e
    · exact Or.inl e
    · exact Or.inr (fun j hj => Nat.le_trans u1.size (e j hj))
  have hfr : ∀ j, (G j ∨ G2 j) → Fr w B a m fv j := fun j hj => hj.elim (h6 j) (hG2 j)
  refine h.facts (G' := fun j => G j ∨ G2 j) ⟨hg.os.trans u1.os, hg.tape.trans u1.tape, hg.output.trans u1.output⟩ (Nat.le_trans u1.size hg.size) hk (by rw [List.length_append]; exact hown)
    (Ls.snoc (k := 5) (b := []) rfl ⟨rfl, sv, rfl, hrd.keep (fun _ h => Or.inr h) (fun j hj hl => hk j hl (hG2 j hj).2.2.2.2)⟩ (fcs_keep h4 (fun _ h => Or.inl h) (fun j hj hl => hk j hl (h6 j hj).2.2.2.2))) hm' (fun j hj => ?_)
  obtain ⟨q1, q2, q3, q4, q5⟩ := hfr j hj
  refine ⟨q2, q3, q4, Nat.lt_of_lt_of_le q1 (Nat.le_trans u1.size hg.size), fun hx => ?_⟩
  rcases hm' with e | e
  · rw [e] at hx; exact q5 hx
  · have := e j hx; omega
end Go.Proofs.YtaokifbpakbgdaaGreatDoor

/- What a query answers of descriptions out of numbers (no program in it). -/
namespace Go.Proofs.YtaokifbpakbgdaaGreatDoor
open Go.RowKit
theorem glob_plain : ∀ (p v : By), (∀ c ∈ p, c ≠ 42 ∧ c ≠ 63) → glob p v = decide (v = p)
  | [], v, _ => by cases v <;> simp [glob]
  | c :: p, [], h => by rw [glob_nil c p (h c List.mem_cons_self).1]; simp
  | c :: p, x :: v, h => by
    have hc := h c List.mem_cons_self
    rw [glob_cons c x p v hc.1, glob_plain p v (fun d hd => h d (List.mem_cons_of_mem _ hd))]
    by_cases e : c = x
    · subst e; simp [hc.2]
    · have : x ≠ c := fun h => e h.symm
      simp [hc.2, e, this]
theorem plain_chars {p : By} (h : p.any (fun c => decide (c.toNat = 42) || decide (c.toNat = 63)) = false) : ∀ c ∈ p, c ≠ 42 ∧ c ≠ 63 := fun c hc => by
  have := List.any_eq_false.1 h c hc
  simp only [Bool.or_eq_true, decide_eq_true_eq, not_or] at this
  exact ⟨fun e => this.1 (by rw [e]; rfl), fun e => this.2 (by rw [e]; rfl)⟩
/-- A plain name fits itself alone. -/
theorem name_match {k p v : By} (hk : k = [76, 79] ∨ k = [85, 73]) (h : NmOk k p) (hv : chk k v = 0) : matchV k p v = decide (v = p) := by
  obtain ⟨hp, _⟩ := name_pat hk h
  obtain ⟨_, h2, _, _, h5, h6⟩ := h
  unfold matchV
  rw [if_neg (fun e => e hv), if_neg h2, if_pos hp]
  rcases hk with rfl | rfl
  · show glob p v = _
    exact glob_plain p v (plain_chars h5)
  · show (if v = [] then false else decide (v ∈ spl 92 p)) = _
    rw [spl_none 92 p h6]
    by_cases e : v = []
    · rw [if_pos e, e]
      exact (decide_eq_false (fun e => h2 e.symm)).symm
    · rw [if_neg e]; simp
theorem dec_chk : ∀ n, n ≤ 48 → chk [73, 83] (Lib.decDigits n) = 0 := fun n hn => by
  rw [← decB_dec (by omega)]
  have : ∀ n, n ≤ 48 → chk [73, 83] (decB n) = 0 := by decide
  exact this n hn
theorem keptQ : ∀ t ∈ tagsQ, (t = 2101760 ∨ t = 2101766 ∨ t = 2101769) ∨ (t ≠ 2101760 ∧ t ≠ 2101766 ∧ t ≠ 2101769 ∧ t ≠ 524370 ∧ isKept t = true) := by decide
theorem desc_chk {l : List (El 3)} (h2 : desE (n := 1) l = 0) {t : Int} (ht : t ∈ tagsQ) : chk (kindT t) (textE (n := 2) l t) = 0 := by
  unfold textE
  cases hf : findE (n := 2) l t with
  | none => exact chk_empty t ht
  | some x =>
    have hm := List.mem_of_find?_eq_some hf
    have hx : x.1 = t := by simpa using List.find?_some hf
    obtain ⟨f1, f2, _⟩ := tagsQ_facts t ht
    have hb : l.any (bad2 (n := 1)) = false := by
      unfold desE at h2
      by_cases h1 : l.any (bad1 (n := 1)) = true
      · rw [if_pos h1] at h2; cases h2
      · rw [if_neg h1] at h2
        by_cases h3 : l.any (bad2 (n := 1)) = true
        · rw [if_pos h3] at h2; cases h2
        · simpa using h3
    have := List.any_eq_false.1 hb x hm
    unfold bad2 at this
    rw [hx, if_neg f2] at this
    have hne : kindT t ≠ [] := fun e => by rw [e] at f1; exact absurd f1 (by decide)
    simpa [hne] using this
theorem tell_val {A : List (List (El 3))} {lvl : Nat} {l : List (El 3)} {t : Int} (ht : t ∈ tagsQ) (h : t ≠ 2101760 ∧ t ≠ 2101766 ∧ t ≠ 2101769) : valG (tellN (n := 1) A lvl l 3) t = textE (n := 2) l t := by
  rcases keptQ t ht with h' | ⟨h0, h1, h2, h3, h4⟩
  · exact absurd h' (by omega)
  · have := tell_other (n := 1) (A := A) (lvl := lvl) (l := l) h0 h1 h2 h3
    rw [← (desc_val (n := 1) (l := l) h4).1]
    unfold valG
    rw [this]
theorem tell_cnt {A : List (List (El 3))} {lvl : Nat} {l : List (El 3)} {k : Nat} (hk : k < 3) : valG (tellN (n := 1) A lvl l 3) (cntT k) = Lib.decDigits (cntB A k (nm k l)) := by
  rcases (show k = 0 ∨ k = 1 ∨ k = 2 by omega) with rfl | rfl | rfl <;> simp [tellN, updG, cntT, valG]
theorem tell_chk {A : List (List (El 3))} (hA : A.length ≤ 48) {lvl : Nat} {l : List (El 3)} (h2 : desE (n := 1) l = 0) {t : Int} (ht : t ∈ tagsQ) : chk (kindT t) (valG (tellN (n := 1) A lvl l 3) t) = 0 := by
  by_cases h : t ≠ 2101760 ∧ t ≠ 2101766 ∧ t ≠ 2101769
  · rw [tell_val ht h]; exact desc_chk h2 ht
  · have hc : ∃ k, k < 3 ∧ t = cntT k := by
      rcases (show t = 2101760 ∨ t = 2101766 ∨ t = 2101769 by omega) with h | h | h
      · exact ⟨0, by decide, h⟩
      · exact ⟨1, by decide, h⟩
      · exact ⟨2, by decide, h⟩
    obtain ⟨k, hk, rfl⟩ := hc
    rw [tell_cnt hk]
    have hkd : kindT (cntT k) = [73, 83] := by rcases (show k = 0 ∨ k = 1 ∨ k = 2 by omega) with rfl | rfl | rfl <;> decide
    rw [hkd]
    exact dec_chk _ (Nat.le_trans (cntB_le A k _) hA)
theorem nameT_Q : ∀ i, i < 4 → nameT i ∈ tagsQ ∧ nameT i ≠ 2101760 ∧ nameT i ≠ 2101766 ∧ nameT i ≠ 2101769 := by decide
/-- Which names fit a query. -/
theorem fit_ask {A : List (List (El 3))} (hG : Good (n := 1) A) {lvl : Nat} (hlv : lvl < 4) {nf : Nat → By} (hn : NfOk lvl nf) {xs : List (El 3)} (hx : XOk lvl xs) {s : By} (hs : ∃ l ∈ A, nm (n := 2) lvl l = s) :
    fitN (n := 1) A lvl (askQ lvl nf xs) s = true ↔ (∀ i, i < lvl → nm (n := 2) i (lastA (n := 2) A lvl s) = nf i) ∧ ∀ x ∈ xs, matchV x.2.1 x.2.2.1 (valG (gS (n := 1) A lvl s) x.1) = true := by
  obtain ⟨hm, _⟩ := lastA_mem (n := 2) hs
  have hd := (hG.2.2 _ hm).2
  have hfit : ∀ x : El 3, x.2.1 ≠ SQ → fitD1 (gS (n := 1) A lvl s) x = matchV x.2.1 x.2.2.1 (valG (gS (n := 1) A lvl s) x.1) := fun x hx => by
    unfold fitD1 fitK
    rw [if_neg hx]
  have hname : ∀ i, i < lvl → (fitD1 (gS (n := 1) A lvl s) (flE 2 (nameT i) (kindT (nameT i)) (nf i)) = true ↔ nm (n := 2) i (lastA (n := 2) A lvl s) = nf i) := fun i hi => by
    obtain ⟨_, f2, _⟩ := nameT_facts i (by omega)
    rw [hfit _ f2]
    show matchV (kindT (nameT i)) (nf i) (valG (gS (n := 1) A lvl s) (nameT i)) = true ↔ _
    obtain ⟨q1, q2⟩ := nameT_Q i (by omega)
    have hv : valG (gS (n := 1) A lvl s) (nameT i) = nm (n := 2) i (lastA (n := 2) A lvl s) := tell_val q1 q2
    have hc : chk (kindT (nameT i)) (valG (gS (n := 1) A lvl s) (nameT i)) = 0 := tell_chk hG.1 hd q1
    rw [name_match (kindT_nm i (by omega)) (hn i hi) hc, hv]
    simp
  unfold fitN fitD
  rw [List.all_eq_true]
  constructor
  · intro h
    refine ⟨fun i hi => (hname i hi).1 (h _ (askQ_mem.2 (Or.inr (Or.inl ⟨i, hi, rfl⟩)))), fun x hxm => ?_⟩
    obtain ⟨t, v, rfl, h1, _⟩ := hx.2.2 x hxm
    rw [← hfit _ (tagsQ_facts t h1).2.1]
    exact h _ (askQ_mem.2 (Or.inr (Or.inr hxm)))
  · rintro ⟨h1, h2⟩ x hxm
    rcases askQ_mem.1 hxm with rfl | ⟨i, hi, rfl⟩ | hxm
    · rw [hfit _ (by show ([67, 83] : By) ≠ SQ; decide)]
      show matchV [67, 83] (wordL lvl) (valG (gS (n := 1) A lvl s) 524370) = true
      have : valG (gS (n := 1) A lvl s) 524370 = wordL lvl := by simp [gS, tellN, updG, cntT, valG]
      rw [this]
      exact lev_fit lvl hlv
    · exact (hname i hi).2 (h1 i hi)
    · obtain ⟨t, v, rfl, k1, _⟩ := hx.2.2 x hxm
      rw [hfit _ (tagsQ_facts t k1).2.1]
      exact h2 _ hxm
theorem match_empty {k v : By} (h : chk k v = 0) : matchV k [] v = true := by
  unfold matchV
  rw [if_neg (fun e => e h), if_pos rfl]
/-- Something of a level lies below what f lies in. -/
def belowS (A : List (List (El 3))) (lvl : Nat) (f : List (El 3)) (s : By) : Prop := ∃ l ∈ A, nm (n := 2) lvl l = s ∧ (lvl = 0 ∨ nm (n := 2) (lvl - 1) l = nm (n := 2) (lvl - 1) f)
theorem desc_all {l f : List (El 3)} (h : Desc l) (h' : Desc f) : ∀ (j : Nat), j < 4 → nm (n := 2) j l = nm (n := 2) j f → ∀ i, i ≤ j → nm (n := 2) i l = nm (n := 2) i f
  | 0, _, he, i, hi => by rw [show i = 0 by omega]; exact he
  | j + 1, hj, he, i, hi => by
    by_cases h1 : i = j + 1
    · rw [h1]; exact he
    · exact desc_all h h' j (by omega) (desc_up h h' (by omega) he) i (by omega)
/-- ... and these are answered. -/
theorem names_ask {A : List (List (El 3))} (hG : Good (n := 1) A) (hD : ∀ l ∈ A, Desc l) {lvl : Nat} (hlv : lvl < 4) {f : List (El 3)} (hf : lvl = 0 ∨ Desc f) {nf : Nat → By} (hnf : ∀ i, i < lvl → nf i = nm (n := 2) i f) {xs : List (El 3)} (hx : XOk lvl xs) (s : By) :
    s ∈ namesF (n := 1) A lvl (askQ lvl nf xs) ↔ belowS A lvl f s ∧ ∀ x ∈ xs, matchV x.2.1 x.2.2.1 (valG (gS (n := 1) A lvl s) x.1) = true := by
  have hn : NfOk lvl nf := fun i hi => by
    rw [hnf i hi]
    rcases hf with h | h
    · omega
    · exact desc_nm h (by omega)
  rw [namesF_mem]
  constructor
  · rintro ⟨hs, hfit⟩
    obtain ⟨h1, h2⟩ := (fit_ask hG hlv hn hx hs).1 hfit
    obtain ⟨hm, hms⟩ := lastA_mem (n := 2) hs
    refine ⟨⟨_, hm, hms, ?_⟩, h2⟩
    by_cases h0 : lvl = 0
    · exact Or.inl h0
    · exact Or.inr ((h1 (lvl - 1) (by omega)).trans (hnf _ (by omega)))
  · rintro ⟨⟨l, hl, hls, hab⟩, h2⟩
    have hs : ∃ l ∈ A, nm (n := 2) lvl l = s := ⟨l, hl, hls⟩
    refine ⟨hs, (fit_ask hG hlv hn hx hs).2 ⟨fun i hi => ?_, h2⟩⟩
    obtain ⟨hm, hms⟩ := lastA_mem (n := 2) hs
    have e1 := desc_all (hD _ hm) (hD l hl) lvl hlv (hms.trans hls.symm) i (by omega)
    rcases hab with h0 | h1
    · omega
    · rcases hf with h0 | hf
      · omega
      · rw [e1, hnf i hi]
        exact desc_all (hD l hl) hf (lvl - 1) (by omega) h1 i (by omega)
/-- The answers, as data sets. -/
def ansS (A : List (List (El 3))) (lvl : Nat) (q : List (El 3)) : List (List (El 3)) := ((namesF (n := 1) A lvl q).mergeSort Go.leB).map (fun s => q.map (ansE (gS (n := 1) A lvl s)))
theorem askQ_kind {lvl : Nat} {nf : Nat → By} {xs : List (El 3)} (hx : XOk lvl xs) : ∀ x ∈ askQ lvl nf xs, x.2.1 = kindT x.1 ∧ x.2.1.length = 2 ∧ x.2.1 ≠ SQ := fun x hm => by
  have hl : ∀ i, i < 4 → (kindT (nameT i)).length = 2 ∧ kindT (nameT i) ≠ SQ := by decide
  have ht : ∀ t ∈ tagsQ, (kindT t).length = 2 := by decide
  rcases askQ_mem.1 hm with rfl | ⟨i, hi, rfl⟩ | hm
  · exact ⟨by show ([67, 83] : By) = kindT 524370; decide, rfl, by show ([67, 83] : By) ≠ SQ; decide⟩
  · by_cases h4 : i < 4
    · exact ⟨rfl, hl i h4⟩
    · have : nameT i = nameT 3 := by unfold nameT; rw [if_neg (by omega), if_neg (by omega), if_neg (by omega)]; rfl
      rw [this]
      exact ⟨rfl, hl 3 (by decide)⟩
  · obtain ⟨t, v, rfl, h1, _⟩ := hx.2.2 x hm
    exact ⟨rfl, ht t h1, (tagsQ_facts t h1).2.1⟩
theorem ask_answers {A : List (List (El 3))} (hG : Good (n := 1) A) {lvl : Nat} (hlv : lvl < 4) {nf : Nat → By} (hn : NfOk lvl nf) {xs : List (El 3)} (hx : XOk lvl xs) (hp : ∀ x ∈ xs, matchE x.2.1 x.2.2.1 [] = 0) :
    fndE (wrS false 0 3 (askQ lvl nf xs)) = 0 ∧ fndL A (wrS false 0 3 (askQ lvl nf xs)) = (ansS A lvl (askQ lvl nf xs)).map (fun l => wrS false 0 3 l) ∧ (ansS A lvl (askQ lvl nf xs)).length ≤ 48 ∧ ∀ l ∈ ansS A lvl (askQ lvl nf xs), errS 3 0 l = 0 ∧ (wrS false 0 3 l).length ≤ 16384 := by
  obtain ⟨_, h2, h3⟩ := ask_good hlv hn hx hp
  obtain ⟨e1, _, e3⟩ := askQ_err hlv hn hx
  refine ⟨h2, ?_, ?_, fun l hl => ?_⟩
  · rw [h3 A]
    unfold ansL ansS
    rw [List.map_map]
    rfl
  · unfold ansS
    rw [List.length_map, List.length_mergeSort]
    exact Nat.le_trans (namesF_len A lvl _) hG.1
  · unfold ansS at hl
    obtain ⟨s, hs, rfl⟩ := List.mem_map.1 hl
    have hs' := (namesF_mem.1 (List.mem_mergeSort.1 hs)).1
    refine ⟨ansOK_of hG hs' e1 (fun x hx' => (askQ_kind hx x hx').1), ?_⟩
    have hgg := goodG_of hG hs'
    have := wrS_few (n := 2) (l := (askQ lvl nf xs).map (ansE (gS (n := 1) A lvl s))) (B := 80) (fun y hy => by
      obtain ⟨x, hx', rfl⟩ := List.mem_map.1 hy
      obtain ⟨_, k2, k3⟩ := askQ_kind hx x hx'
      exact wrE_flat k2 k3 (hgg x.1).1)
    rw [List.length_map] at this
    replace this : (wrS false 0 3 (List.map (ansE (gS (n := 1) A lvl s)) (askQ lvl nf xs))).length ≤ (askQ lvl nf xs).length * 80 := this
    have h12 : (askQ lvl nf xs).length * 80 ≤ 12 * 80 := Nat.mul_le_mul_right _ e3
    omega
theorem find_ans {g : Int → Option (El 3)} {t : Int} : ∀ {q : List (El 3)} {x : El 3}, findE (n := 2) q t = some x → textE (n := 2) (q.map (ansE (n := 1) g)) t = valG g t
  | [], x, h => by simp [findE] at h
  | y :: q, x, h => by
    unfold findE at h
    by_cases e : y.1 = t
    · unfold textE findE
      rw [List.map_cons, List.find?_cons_of_pos (by show decide (y.1 = t) = true; exact decide_eq_true e)]
      show valG g y.1 = _
      rw [e]
    · rw [List.find?_cons_of_neg (by simpa using e)] at h
      have := find_ans (q := q) (g := g) h
      unfold textE findE at this ⊢
      rw [List.map_cons, List.find?_cons_of_neg (by show ¬ decide (y.1 = t) = true; simpa using e)]
      exact this
end Go.Proofs.YtaokifbpakbgdaaGreatDoor

/- How many answers there are (no program in it). -/
namespace Go.Proofs.YtaokifbpakbgdaaGreatDoor
open Go.RowKit
theorem nodup_len {α : Type} [DecidableEq α] {L M : List α} (hL : L.Nodup) (hM : M.Nodup) (h : ∀ x, x ∈ L ↔ x ∈ M) : L.length = M.length :=
  ((List.perm_ext_iff_of_nodup hL hM).2 h).length_eq
/-- One alone. -/
theorem ansS_one {A : List (List (El 3))} {lvl : Nat} {q : List (El 3)} {s : By} (h : ∀ x, x ∈ namesF (n := 1) A lvl q ↔ x = s) : ansS A lvl q = [q.map (ansE (gS (n := 1) A lvl s))] := by
  have hl : (namesF (n := 1) A lvl q).length = 1 := nodup_len (M := [s]) (namesF_nodup A lvl q) (by simp) (fun x => by rw [h x]; simp)
  have : namesF (n := 1) A lvl q = [s] := by
    match hm : namesF (n := 1) A lvl q, hl with
    | [y], _ =>
      have := (h y).1 (by rw [hm]; simp)
      rw [this]
  unfold ansS
  rw [this]
  simp
theorem lay_first {l : List (El 3)} (hl : Desc l) : takeA [] false l = [l] := by
  unfold takeA layA
  rw [if_neg (by decide), if_pos]
  · rfl
  · rw [lay_desc (fun o ho => by cases ho) hl]; rfl
theorem cnt_one (l : List (El 3)) (i : Nat) : cntA (n := 2) [l] i = 1 := by
  unfold cntA
  simp [seenA]
end Go.Proofs.YtaokifbpakbgdaaGreatDoor

/- Elements without items in a block of their own, read. -/
namespace Go.Proofs.YtaokifbpakbgdaaGreatDoor
open Go.RowKit
theorem el_rd2 {w : World} {F : Nat → Prop} {b : Nat} {t t' : Int} {k v k' v' : By} {c : Nat} (h : cls w b #[.int .i64 t, .string (bs k), .string (bs v), .slice none 0 0, .int .i64 t', .string (bs k'), .string (bs v'), .slice none 0 0] 73) (hF : F b) : Rd w F 3 (.slice (some ⟨b, 0, none⟩) 2 c) [flE 2 t k v, flE 2 t' k' v'] := by
  refine ⟨some ⟨b, 0, none⟩, c, rfl, fun i x hx => ⟨_, rfl, hF, ?_⟩⟩
  have hi := (List.getElem?_eq_some_iff.1 hx).1
  rcases (show i = 0 ∨ i = 1 by have : ([flE 2 t k v, flE 2 t' k' v'] : List (El 3)).length = 2 := rfl; omega) with rfl | rfl
  · obtain rfl := Option.some.inj hx
    exact ⟨h.at rfl, h.at rfl, h.at rfl, _, h.at rfl, RdI.nil _ _ _⟩
  · obtain rfl := Option.some.inj hx
    exact ⟨h.at rfl, h.at rfl, h.at rfl, _, h.at rfl, RdI.nil _ _ _⟩
end Go.Proofs.YtaokifbpakbgdaaGreatDoor
