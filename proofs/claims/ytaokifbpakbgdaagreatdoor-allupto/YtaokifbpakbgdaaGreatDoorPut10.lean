/-
  Several texts in one; what each one has stands at its head.
-/
import Derived.Test.YtaokifbpakbgdaaGreatDoorPut9
import Derived.Test.YtaokifbpakbgdaaGreatDoorPut2
/- Package archive: the elements are held against what is demanded of them: isOfOtherKind, isNoValue, slices.IndexFunc and slices.ContainsFunc over them, checkElements. -/
namespace Go.Proofs.YtaokifbpakbgdaaGreatDoor
open Go.RowKit

def kindBad (d : Dm) : Bool := !(d.1 == d.2.2)
def valBad (d : Dm) : Bool := !(d.2.2 == SQ) && decide (chk d.2.2 d.2.1 ≠ 0)
/-- The value of a demand. -/
def dmV (d : Dm) (t : Int) (ad : Option Addr) (len cap : Nat) : Value := .agg #[.int .i64 t, .string (bs d.1), .string (bs d.2.1), .slice ad len cap, .string (bs d.2.2)]
theorem isOfOtherKind_any (w : World) (d : Dm) (t : Int) (ad : Option Addr) (len cap : Nat) :
    Calls Tryz.prog 153 #[dmV d t ad len cap] w fun e w' => e = .returned (.bool (kindBad d)) ∧ Below w.heap.size w w' := by
  have e1 := bs_toList d.1
  have e2 := bs_toList d.2.2
  unfold dmV
  go_enter Tryz.func153, Tryz.ntmps153
  go_wp2
  go_ret
  exact ⟨rfl, Below.alloc (Below.refl _ _) (Nat.le_refl _) _⟩
set_option maxRecDepth 20000 in
theorem isNoValue_any (w : World) (d : Dm) (t : Int) (ad : Option Addr) (len cap : Nat) (hd : d.2.1.length ≤ 64) (hv : Vars w) :
    Calls Tryz.prog 154 #[dmV d t ad len cap] w fun e w' => e = .returned (.bool (valBad d)) ∧ Below w.heap.size w w' := by
  have e2 := bs_toList d.2.2
  have C := hid (fun (W : World) (h : Vars W) => Check_any (bs d.2.2) (bs d.2.1) W (by rw [bs_size]; omega) h)
  have U0 := hid (Below.alloc (Below.refl w.heap.size w) (Nat.le_refl _) (.cells #[.int .i64 t, .string (bs d.1), .string (bs d.2.1), .slice ad len cap, .string (bs d.2.2)] 187))
  have HV := hid hv
  clear hv
  unfold dmV valBad
  by_cases hs : d.2.2 = [83, 81]
  · have hb : (d.2.2 == [83, 81]) = true := by simpa using hs
    clear hs
    go_enter Tryz.func154, Tryz.ntmps154
    go_wp2
    go_ret
    exact ⟨ret_bool (by rw [hb]; rfl), U0.out⟩
  · have hb : (d.2.2 == [83, 81]) = false := by simpa using hs
    clear hs
    go_enter Tryz.func154, Tryz.ntmps154
    go_wp2_with fail
    go_at_call 13
    refine (C.out _ (HV.out.up U0.out)).mono ?_
    rintro e w2 ⟨rfl, u2⟩
    have U2 := hid (U0.out.trans (Below.mono u2 U0.out.size))
    clear u2 C
    change _ at U2
    go_wp2
    go_ret
    refine ⟨ret_bool ?_, U2.out⟩
    rw [hb, Bool.not_false, Bool.true_and]
    show (chk (bs d.2.2).data.toList (bs d.2.1).data.toList != 0) = decide (chk (bs d.2.2).data.toList (bs d.2.1).data.toList ≠ 0)
    by_cases h0 : chk (bs d.2.2).data.toList (bs d.2.1).data.toList = 0
    · rw [h0]; rfl
    · rw [decide_eq_true h0]; simpa using h0
theorem row_sl {w : World} {base : Nat} {e : TypeId} {k : Nat} {v : Value} {n : Nat} {xs : List Value} (h : w.ownsRow base e k v n xs) : ∃ ad cap, v = .slice ad n cap := by
  rcases h.2 with ⟨rfl, h1⟩ | ⟨g, cap, cur, rfl, _⟩
  · exact ⟨_, _, by rw [h1]⟩
  · exact ⟨_, _, rfl⟩
theorem demand_at {w : World} {base : Nat} {v : Value} {D : List Dm} {xs : List Value} (h : w.ownsRow base 187 5 v D.length xs) (hL : Ls 5 CpD xs D []) {k : Nat} (hk : k < D.length) :
    ∃ g cap t ad len cp, v = .slice (some ⟨g, 0, none⟩) D.length cap ∧ w.cell? ⟨g, k * 5, none⟩ = some (.int .i64 t) ∧ w.cell? ⟨g, k * 5 + 1, none⟩ = some (.string (bs D[k].1)) ∧ w.cell? ⟨g, k * 5 + 2, none⟩ = some (.string (bs D[k].2.1)) ∧
      w.cell? ⟨g, k * 5 + 3, none⟩ = some (.slice ad len cp) ∧ w.cell? ⟨g, k * 5 + 4, none⟩ = some (.string (bs D[k].2.2)) := by
  rcases id h.2 with ⟨_, h1⟩ | ⟨g, cap, cur, rfl, _⟩
  · omega
  · obtain ⟨c, b, ⟨_, t, ad, len, cp, rfl⟩, _, _, h4⟩ := hL.at k D[k] (List.getElem?_eq_getElem hk)
    have hb : k * 5 + 5 ≤ D.length * 5 := by omega
    have cc : ∀ j u, j < 5 → [Value.int .i64 t, .string (bs D[k].1), .string (bs D[k].2.1), .slice ad len cp, .string (bs D[k].2.2)][j]? = some u → w.cell? ⟨g, k * 5 + j, none⟩ = some u := fun j u hj hu => by
      rw [h.cellAt _ (by omega), Nat.mul_comm]
      exact h4 j u hu
    exact ⟨g, cap, t, ad, len, cp, rfl, cc 0 _ (by omega) rfl, cc 1 _ (by omega) rfl, cc 2 _ (by omega) rfl, cc 3 _ (by omega) rfl, cc 4 _ (by omega) rfl⟩
set_option maxRecDepth 20000 in
set_option maxHeartbeats 1000000 in
theorem indexK_any (w : World) (base : Nat) (v : Value) (D : List Dm) (xs : List Value) (ho : w.ownsRow base 187 5 v D.length xs) (hL : Ls 5 CpD xs D []) (hD : D.length ≤ 100000) :
    Calls Tryz.prog 215 #[v, .func (.func 153) #[] #[]] w fun e w' => (∃ i : Int, e = .returned (.int .i64 i) ∧ decide (0 ≤ i) = D.any kindBad) ∧ Below w.heap.size w w' := by
  obtain ⟨ad, cap, rfl⟩ := row_sl ho
  have HO := hid ho
  have HL := hid hL
  skip
  clear ho hL
  go_enter Tryz.func215, Tryz.ntmps215
  go_wp2_with fail
  go_loopw [8] (fun i wr => ∃ k : Nat, k ≤ D.length ∧ i = .int .i64 k ∧ Hid (D.any kindBad = (D.drop k).any kindBad) ∧ Hid (Below w.heap.size w wr)) (fun i _ => D.length - (intOf i).toNat)
  case atStart => exact ⟨0, Nat.zero_le _, rfl, rfl, Below.refl _ _⟩
  case round =>
    obtain ⟨k, hk, rfl, hsp, hU⟩ := hrel
    by_cases hkl : k < D.length
    · obtain ⟨g, cap2, t, ad2, len, cp, hv, c0, c1, c2, c3, c4⟩ := demand_at (ownsRow_keep HO.out (w' := wr) (fun j hj => hU.out.block j (ownsRow_lt HO.out j hj))) HL.out hkl
      obtain ⟨rfl, _, rfl⟩ := Value.slice.inj hv
      have hst := hid (show (D.drop k).any kindBad = (kindBad D[k] || (D.drop (k + 1)).any kindBad) by rw [List.drop_eq_getElem_cons hkl, List.any_cons])
      have hmem := hid (List.getElem_mem hkl)
      clear hv
      generalize D[k] = d at c1 c2 c4 hst hmem
      go_wp2_with fail
      go_at_call 153
      refine (isOfOtherKind_any wr d t ad2 len cp).mono ?_
      rintro e w2 ⟨rfl, u2⟩
      have U2 := hid (hU.out.trans (u2.mono hU.out.size))
      clear u2
      generalize hbb : kindBad d = bb at hst
      clear hbb
      cases bb
      · have hst2 := hid (hsp.out.trans (hst.out.trans (Bool.false_or _)))
        clear hst
        go_wp2
        go_roundw
        case rel => exact ⟨k + 1, by omega, by go_num, hst2, U2⟩
        case measure => simp [intOf]; omega
      · have hF := hid (show D.any kindBad = true by rw [hsp.out, hst.out, Bool.true_or])
        clear hst
        go_wp2
        go_ret
        exact ⟨⟨_, rfl, by rw [hF.out]; simp⟩, U2.out⟩
    · have hF := hid (show D.any kindBad = false by rw [hsp.out, List.drop_eq_nil_of_le (by omega)]; rfl)
      go_wp2
      go_ret
      exact ⟨⟨-1, rfl, by rw [hF.out]; rfl⟩, hU.out⟩
theorem containsK_any (w : World) (base : Nat) (v : Value) (D : List Dm) (xs : List Value) (ho : w.ownsRow base 187 5 v D.length xs) (hL : Ls 5 CpD xs D []) (hD : D.length ≤ 100000) :
    Calls Tryz.prog 152 #[v, .func (.func 153) #[] #[]] w fun e w' => e = .returned (.bool (D.any kindBad)) ∧ Below w.heap.size w w' := by
  have c1 := hid (indexK_any w base v D xs ho hL hD)
  clear ho hL
  go_enter Tryz.func152, Tryz.ntmps152
  go_wp2_with fail
  go_at_call 215
  refine c1.out.mono ?_
  rintro e w2 ⟨⟨i, rfl, hi⟩, u2⟩
  have U2 := hid u2
  have HI := hid hi
  clear u2 c1 hi
  go_wp2
  go_ret
  exact ⟨ret_bool HI.out, U2.out⟩
set_option maxRecDepth 20000 in
set_option maxHeartbeats 1000000 in
theorem indexV_any (w : World) (base : Nat) (v : Value) (D : List Dm) (xs : List Value) (ho : w.ownsRow base 187 5 v D.length xs) (hL : Ls 5 CpD xs D []) (hD : D.length ≤ 100000) (hv : ∀ d ∈ D, d.2.1.length ≤ 64) (hV : Vars w) :
    Calls Tryz.prog 215 #[v, .func (.func 154) #[] #[]] w fun e w' => (∃ i : Int, e = .returned (.int .i64 i) ∧ decide (0 ≤ i) = D.any valBad) ∧ Below w.heap.size w w' := by
  obtain ⟨ad, cap, rfl⟩ := row_sl ho
  have HO := hid ho
  have HL := hid hL
  have HV := hid hv
  have HW := hid hV
  clear hv hV
  clear ho hL
  go_enter Tryz.func215, Tryz.ntmps215
  go_wp2_with fail
  go_loopw [8] (fun i wr => ∃ k : Nat, k ≤ D.length ∧ i = .int .i64 k ∧ Hid (D.any valBad = (D.drop k).any valBad) ∧ Hid (Below w.heap.size w wr)) (fun i _ => D.length - (intOf i).toNat)
  case atStart => exact ⟨0, Nat.zero_le _, rfl, rfl, Below.refl _ _⟩
  case round =>
    obtain ⟨k, hk, rfl, hsp, hU⟩ := hrel
    by_cases hkl : k < D.length
    · obtain ⟨g, cap2, t, ad2, len, cp, hv, c0, c1, c2, c3, c4⟩ := demand_at (ownsRow_keep HO.out (w' := wr) (fun j hj => hU.out.block j (ownsRow_lt HO.out j hj))) HL.out hkl
      obtain ⟨rfl, _, rfl⟩ := Value.slice.inj hv
      have hst := hid (show (D.drop k).any valBad = (valBad D[k] || (D.drop (k + 1)).any valBad) by rw [List.drop_eq_getElem_cons hkl, List.any_cons])
      have hmem := hid (List.getElem_mem hkl)
      clear hv
      generalize D[k] = d at c1 c2 c4 hst hmem
      go_wp2_with fail
      go_at_call 154
      refine (isNoValue_any wr d t ad2 len cp (HV.out d hmem.out) (HW.out.up hU.out)).mono ?_
      rintro e w2 ⟨rfl, u2⟩
      have U2 := hid (hU.out.trans (u2.mono hU.out.size))
      clear u2
      generalize hbb : valBad d = bb at hst
      clear hbb
      cases bb
      · have hst2 := hid (hsp.out.trans (hst.out.trans (Bool.false_or _)))
        clear hst
        go_wp2
        go_roundw
        case rel => exact ⟨k + 1, by omega, by go_num, hst2, U2⟩
        case measure => simp [intOf]; omega
      · have hF := hid (show D.any valBad = true by rw [hsp.out, hst.out, Bool.true_or])
        clear hst
        go_wp2
        go_ret
        exact ⟨⟨_, rfl, by rw [hF.out]; simp⟩, U2.out⟩
    · have hF := hid (show D.any valBad = false by rw [hsp.out, List.drop_eq_nil_of_le (by omega)]; rfl)
      go_wp2
      go_ret
      exact ⟨⟨-1, rfl, by rw [hF.out]; rfl⟩, hU.out⟩
theorem containsV_any (w : World) (base : Nat) (v : Value) (D : List Dm) (xs : List Value) (ho : w.ownsRow base 187 5 v D.length xs) (hL : Ls 5 CpD xs D []) (hD : D.length ≤ 100000) (hv : ∀ d ∈ D, d.2.1.length ≤ 64) (hV : Vars w) :
    Calls Tryz.prog 152 #[v, .func (.func 154) #[] #[]] w fun e w' => e = .returned (.bool (D.any valBad)) ∧ Below w.heap.size w w' := by
  have c1 := hid (indexV_any w base v D xs ho hL hD hv hV)
  clear ho hL
  go_enter Tryz.func152, Tryz.ntmps152
  go_wp2_with fail
  go_at_call 215
  refine c1.out.mono ?_
  rintro e w2 ⟨⟨i, rfl, hi⟩, u2⟩
  have U2 := hid u2
  have HI := hid hi
  clear u2 c1 hi
  go_wp2
  go_ret
  exact ⟨ret_bool HI.out, U2.out⟩
end Go.Proofs.YtaokifbpakbgdaaGreatDoor

/- Package archive: checkElements. -/
namespace Go.Proofs.YtaokifbpakbgdaaGreatDoor
open Go.RowKit

theorem kindT_sq (t : Int) : kindT t = SQ ↔ t = 533016 := by
  constructor
  · intro h
    unfold kindT at h
    repeat' (split at h; (first | (exact absurd h (by decide)) | assumption))
    all_goals first | assumption | exact absurd h (by decide)
  · rintro rfl; decide
/-- What checkElements answers. -/
def celE {n : Nat} (l : List (El (n + 2))) : Int := if l.any bad1 = true then 2 else if l.any bad2 = true then 6 else 0
theorem any_flat {α β : Type} (f : α → List β) (p : β → Bool) : ∀ l : List α, ((l.map f).flatten).any p = l.any (fun x => (f x).any p)
  | [] => rfl
  | x :: l => by rw [List.map_cons, List.flatten_cons, List.any_append, List.any_cons, any_flat f p l]
theorem any_words {n : Nat} (p : Dm → Bool) (s : List (El (n + 1))) : ((wordsL s).map dmY).any p = s.any (fun y => isWord y.1 && p (dmY y)) := by
  unfold wordsL
  induction s with
  | nil => rfl
  | cons y s ih =>
    rw [List.any_cons]
    by_cases h : isWord y.1 = true
    · rw [List.filter_cons_of_pos (p := fun x : El (n + 1) => isWord x.1) h, List.map_cons, List.any_cons, ih, h, Bool.true_and]
    · rw [List.filter_cons_of_neg (p := fun x : El (n + 1) => isWord x.1) h, ih, show isWord y.1 = false by simpa using h, Bool.false_and, Bool.false_or]
theorem any_congr' {α : Type} {p q : α → Bool} : ∀ {l : List α}, (∀ x ∈ l, p x = q x) → l.any p = l.any q
  | [], _ => rfl
  | x :: l, h => by rw [List.any_cons, List.any_cons, h x List.mem_cons_self, any_congr' (fun y hy => h y (List.mem_cons_of_mem _ hy))]
theorem dmI_kind {n : Nat} (its : Its (n + 1)) : (dmI its).any kindBad = badI false its := by
  unfold dmI badI
  rw [any_flat]
  refine any_congr' (fun s _ => ?_)
  rw [any_words]
  refine any_congr' (fun y _ => ?_)
  unfold badY kindBad dmY
  by_cases h : y.2.1 = LO <;> simp [h]
theorem dmI_val {n : Nat} (its : Its (n + 1)) (h : badI false its = false) : (dmI its).any valBad = badI true its := by
  unfold dmI badI at *
  rw [any_flat]
  rw [List.any_eq_false] at h
  refine any_congr' (fun s hs => ?_)
  have h1 := h s hs
  rw [Bool.not_eq_true, List.any_eq_false] at h1
  rw [any_words]
  refine any_congr' (fun y hy => ?_)
  have h2 := h1 y hy
  unfold badY at h2 ⊢
  unfold valBad dmY
  by_cases hw : isWord y.1 = true
  · rw [hw] at h2 ⊢
    have h3 : y.2.1 = LO := by
      by_cases e : y.2.1 = LO
      · exact e
      · simp [e] at h2
    simp [h3]
  · rw [show isWord y.1 = false by simpa using hw]; rfl
theorem dmE_kind {n : Nat} (x : El (n + 2)) (h : x.2.1 ≠ SQ → x.2.2.2 = []) : (dmE x).any kindBad = bad1 x := by
  unfold dmE bad1
  rw [List.any_append]
  by_cases hk : kindT x.1 = []
  · have ht : x.1 ≠ 533016 := fun e => by rw [e] at hk; exact absurd hk (by decide)
    rw [if_pos hk, if_neg ht, decide_eq_false (fun h => h hk)]; rfl
  · rw [if_neg hk, decide_eq_true hk, Bool.true_and]
    have h1 : ([(x.2.1, x.2.2.1, kindT x.1)] : List Dm).any kindBad = decide (x.2.1 ≠ kindT x.1) := by
      simp only [List.any_cons, List.any_nil, Bool.or_false, kindBad]
      by_cases e : x.2.1 = kindT x.1
      · rw [e]; simp
      · rw [decide_eq_true e]; simpa using e
    rw [h1]
    by_cases ht : x.1 = 533016
    · rw [if_pos ht, dmI_kind]
    · rw [if_neg ht, List.any_nil]
      by_cases e : x.2.1 = kindT x.1
      · have hn : x.2.1 ≠ SQ := fun e2 => ht ((kindT_sq _).1 (e ▸ e2))
        rw [h hn]; rfl
      · rw [decide_eq_true e, Bool.true_or, Bool.true_or]
theorem dmE_val {n : Nat} (x : El (n + 2)) (hb : bad1 x = false) : (dmE x).any valBad = bad2 x := by
  unfold dmE bad2
  unfold bad1 at hb
  rw [List.any_append]
  by_cases hk : kindT x.1 = []
  · have ht : x.1 ≠ 533016 := fun e => by rw [e] at hk; exact absurd hk (by decide)
    rw [if_pos hk, if_neg ht, decide_eq_false (fun h => h hk)]; rfl
  · rw [decide_eq_true hk, Bool.true_and, Bool.or_eq_false_iff] at hb
    rw [if_neg hk, decide_eq_true hk, Bool.true_and]
    by_cases ht : x.1 = 533016
    · have hq : kindT x.1 = SQ := (kindT_sq _).2 ht
      rw [if_pos ht, if_pos hq, dmI_val _ hb.2, hq]
      simp [valBad]
    · have hq : ¬ kindT x.1 = SQ := fun e => ht ((kindT_sq _).1 e)
      rw [if_neg ht, if_neg hq]
      simp only [List.any_cons, List.any_nil, Bool.or_false, valBad]
      have : (kindT x.1 == SQ) = false := by simpa using hq
      rw [this]; rfl
theorem dms_kind {n : Nat} {l : List (El (n + 2))} (h : ∀ x ∈ l, x.2.1 ≠ SQ → x.2.2.2 = []) : (dms l).any kindBad = l.any bad1 := by
  unfold dms
  rw [any_flat]
  exact any_congr' (fun x hx => dmE_kind x (h x hx))
theorem dms_val {n : Nat} {l : List (El (n + 2))} (h : l.any bad1 = false) : (dms l).any valBad = l.any bad2 := by
  unfold dms
  rw [any_flat]
  rw [List.any_eq_false] at h
  exact any_congr' (fun x hx => dmE_val x (by simpa using h x hx))
theorem dms_short {n : Nat} {l : List (El (n + 2))} (h : Sane l) : ∀ d ∈ dms l, d.2.1.length ≤ 64 := by
  intro d hd
  unfold dms at hd
  obtain ⟨m, hm, hd⟩ := List.mem_flatten.1 hd
  obtain ⟨x, hx, rfl⟩ := List.mem_map.1 hm
  obtain ⟨p1, _, p3⟩ := h.2 x hx
  unfold dmE at hd
  rcases List.mem_append.1 hd with hd | hd
  · split at hd
    · cases hd
    · rw [List.mem_singleton] at hd; rw [hd]; exact p1
  · split at hd
    · unfold dmI at hd
      obtain ⟨m, hm, hd⟩ := List.mem_flatten.1 hd
      obtain ⟨s, hs, rfl⟩ := List.mem_map.1 hm
      obtain ⟨y, hy, rfl⟩ := List.mem_map.1 hd
      exact (p3 s hs).2 y (List.mem_filter.1 hy).1
    · cases hd
set_option maxRecDepth 20000 in
theorem checkElements_any (n : Nat) (F : Nat → Prop) (w : World) (v : Value) (l : List (El (n + 2))) (h : Rd w F (n + 2) v l) (hF : ∀ j, F j → j < w.heap.size) (hS : Sane l) (hq : ∀ x ∈ l, x.2.1 ≠ SQ → x.2.2.2 = []) (hV : Vars w) :
    Calls Tryz.prog 94 #[v] w fun e w' => e = .returned (.int .i64 (celE l)) ∧ Below w.heap.size w w' := by
  have hx : ∀ x ∈ l, x.2.2.2.length ≤ 8 ∧ ∀ s ∈ x.2.2.2, s.length ≤ 24 := fun x hx => ⟨(hS.2 x hx).2.1, fun s hs => ((hS.2 x hx).2.2 s hs).1⟩
  have hlen := dms_len l hx
  have hl := hS.1
  have c1 := hid (demands_any n F w v l h hF hS.1 hx)
  have e1 := hid (dms_kind hq)
  have e2 := hid (fun h => dms_val (l := l) h)
  have e3 := hid (dms_short hS)
  have HV := hid hV
  clear h hF hS hq hx hV
  go_enter Tryz.func94, Tryz.ntmps94
  go_wp2_with fail
  go_at_call 151
  refine c1.out.mono ?_
  rintro e w1 ⟨v1, xs, rfl, u1, o1, l1⟩
  have U1 := hid u1
  have O1 := hid o1
  have L1 := hid l1
  clear u1 o1 l1 c1
  generalize dms l = D at hlen O1 L1 e1 e2 e3
  go_wp2_with fail
  go_at_call 152
  refine (containsK_any w1 _ v1 D xs O1.out L1.out (by omega)).mono ?_
  rintro e w2 ⟨rfl, u2⟩
  have U2 := hid (U1.out.trans (u2.mono U1.out.size))
  have O2 := hid (ownsRow_keep O1.out (w' := w2) (fun j hj => u2.block j (ownsRow_lt O1.out j hj)))
  clear u2
  rw [e1.out]
  by_cases hb : l.any bad1 = true
  · have hF := hid (show celE l = 2 by rw [celE, if_pos hb])
    rw [hb]
    clear hb
    go_wp2
    go_ret
    exact ⟨ret_int hF.out.symm, U2.out⟩
  · have hb2 : l.any bad1 = false := by simpa using hb
    have e4 := hid (e2.out hb2)
    have hF := hid (show celE l = if l.any bad2 = true then 6 else 0 by rw [celE, if_neg hb])
    rw [hb2]
    clear hb hb2 e2
    go_wp2_with fail
    go_at_call 152
    refine (containsV_any w2 _ v1 D xs O2.out L1.out (by omega) e3.out (HV.out.up U2.out)).mono ?_
    rintro e w3 ⟨rfl, u3⟩
    have U3 := hid (U2.out.trans (u3.mono U2.out.size))
    clear u3
    rw [e4.out]
    cases hc : l.any bad2
    · have hF2 := hid (hF.out.trans (if_neg (by rw [hc]; decide)))
      clear hF hc
      go_wp2
      go_ret
      exact ⟨ret_int hF2.out.symm, U3.out⟩
    · have hF2 := hid (hF.out.trans (if_pos hc))
      clear hF hc
      go_wp2
      go_ret
      exact ⟨ret_int hF2.out.symm, U3.out⟩
end Go.Proofs.YtaokifbpakbgdaaGreatDoor
