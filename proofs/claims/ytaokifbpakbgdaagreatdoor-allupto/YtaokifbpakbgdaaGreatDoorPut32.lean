/-
  Several texts in one; what each one has stands at its head.
-/
import Derived.Test.YtaokifbpakbgdaaGreatDoorPut31
import Derived.Test.YtaokifbpakbgdaaGreatDoorPut21
import Derived.Test.YtaokifbpakbgdaaGreatDoorPut4
/- What the document's archive answers to a query is what the program's answers (no program): the names in order. -/
namespace Go.Proofs.YtaokifbpakbgdaaGreatDoor

theorem le_of_less {a b : By} (h : Op.bytesLess a b = true) : a ≤ b := by
  rw [bytesLess_eq, decide_eq_true_eq] at h
  rcases List.le_total a b with h1 | h1
  · exact h1
  · exact absurd h h1
theorem le_of_notless {a b : By} (h : ¬ Op.bytesLess a b = true) : b ≤ a := by
  rw [bytesLess_eq, decide_eq_true_eq] at h
  exact h
theorem insP_mem (p x : By × By) : ∀ L, x ∈ insP p L ↔ x = p ∨ x ∈ L
  | [] => by simp [insP]
  | u :: r => by
    rw [insP]
    by_cases h : Op.bytesLess p.1 u.1 = true
    · rw [if_pos h]; simp
    · rw [if_neg h, List.mem_cons, insP_mem p x r, List.mem_cons]
      constructor
      · rintro (h | h | h)
        · exact Or.inr (Or.inl h)
        · exact Or.inl h
        · exact Or.inr (Or.inr h)
      · rintro (h | h | h)
        · exact Or.inr (Or.inl h)
        · exact Or.inl h
        · exact Or.inr (Or.inr h)
theorem insP_sorted (p : By × By) : ∀ {L : List (By × By)}, L.Pairwise (fun a b => a.1 ≤ b.1) → (insP p L).Pairwise (fun a b => a.1 ≤ b.1)
  | [], _ => by rw [insP]; exact List.pairwise_singleton _ _
  | u :: r, h => by
    obtain ⟨h1, h2⟩ := List.pairwise_cons.1 h
    rw [insP]
    by_cases hl : Op.bytesLess p.1 u.1 = true
    · rw [if_pos hl]
      refine List.pairwise_cons.2 ⟨fun v hv => ?_, h⟩
      rcases List.mem_cons.1 hv with rfl | hv
      · exact le_of_less hl
      · exact List.le_trans (le_of_less hl) (h1 v hv)
    · rw [if_neg hl]
      refine List.pairwise_cons.2 ⟨fun v hv => ?_, insP_sorted p h2⟩
      rcases (insP_mem p v r).1 hv with rfl | hv
      · exact le_of_notless hl
      · exact h1 v hv
theorem insP_nodup (p : By × By) : ∀ {L : List (By × By)}, (L.map (·.1)).Nodup → (∀ u ∈ L, u.1 ≠ p.1) → ((insP p L).map (·.1)).Nodup
  | [], _, _ => by rw [insP]; simp
  | u :: r, h, hp => by
    rw [List.map_cons] at h
    obtain ⟨h1, h2⟩ := List.nodup_cons.1 h
    rw [insP]
    by_cases hl : Op.bytesLess p.1 u.1 = true
    · rw [if_pos hl, List.map_cons, List.nodup_cons]
      refine ⟨fun hm => ?_, by rw [List.map_cons]; exact h⟩
      obtain ⟨v, hv, e⟩ := List.mem_map.1 hm
      exact hp v hv e
    · rw [if_neg hl, List.map_cons, List.nodup_cons]
      refine ⟨fun hm => ?_, insP_nodup p h2 (fun v hv => hp v (List.mem_cons_of_mem _ hv))⟩
      obtain ⟨v, hv, e⟩ := List.mem_map.1 hm
      rcases (insP_mem p v r).1 hv with rfl | hv
      · exact hp u List.mem_cons_self e.symm
      · exact h1 (List.mem_map.2 ⟨v, hv, e⟩)
theorem last_index {α : Type} {P : α → Prop} [DecidablePred P] : ∀ (A : List α), (∃ l ∈ A, P l) → ∃ (k : Nat) (h : k < A.length), P A[k] ∧ ∀ o ∈ A.drop (k + 1), ¬ P o
  | [], ⟨l, hl, _⟩ => by simp at hl
  | a :: A, ⟨l, hl, hP⟩ => by
    by_cases h : ∃ l ∈ A, P l
    · obtain ⟨k, hk, h1, h2⟩ := last_index A h
      exact ⟨k + 1, by simp; omega, by simpa using h1, by simpa using h2⟩
    · rcases List.mem_cons.1 hl with rfl | hl
      · exact ⟨0, by simp, by simpa using hP, fun o ho hPo => h ⟨o, by simpa using ho, hPo⟩⟩
      · exact absurd ⟨l, hl, hP⟩ h
theorem newest_iff {n : Nat} {A : List (List (El (n + 1)))} {k lvl : Nat} (hk : k < A.length) : newestA A k lvl = true ↔ ∀ o ∈ A.drop (k + 1), nm lvl o ≠ nm lvl A[k] := by
  rw [newestA_eq hk, List.all_eq_true]
  simp
theorem last_newest {n : Nat} {A : List (List (El (n + 1)))} {k lvl : Nat} (hk : k < A.length) (h : newestA A k lvl = true) : lastA A lvl (nm lvl A[k]) = A[k] := by
  have h1 := (newest_iff hk).1 h
  have e : A = A.take k ++ A[k] :: A.drop (k + 1) := by rw [← List.drop_eq_getElem_cons hk, List.take_append_drop]
  have hf : A.filter (fun o => nm lvl o == nm lvl A[k]) = (A.take k).filter (fun o => nm lvl o == nm lvl A[k]) ++ [A[k]] := by
    generalize hx : A[k] = x at e h1
    have hnil : (A.drop (k + 1)).filter (fun o => nm lvl o == nm lvl x) = [] := List.filter_eq_nil_iff.2 (fun o ho => by simpa using h1 o ho)
    conv => lhs; rw [e]
    rw [List.filter_append, List.filter_cons_of_pos (by simp), hnil]
  unfold lastA
  rw [hf]
  simp
theorem all_fit {A : List (List (El 3))} (hA : A.length ≤ 48) {lvl : Nat} (hlv : lvl < 4) {l : List (El 3)} {q : List (El 3)} (hq : errS 3 0 q = 0) (hl : levO (n := 2) q = lvl) (ha : askE (n := 1) (lvl : Int) q = 0) : q.all (fitA A lvl l) = fitD (n := 1) (tellN (n := 1) A lvl l 3) q := by
  unfold fitD
  have : ∀ x ∈ q, fitA A lvl l x = fitD1 (n := 1) (tellN (n := 1) A lvl l 3) x := fun x hx => by
    unfold fitA
    by_cases ht : x.1 = 524370
    · rw [decide_eq_true ht, Bool.true_or]
      obtain ⟨h1, h2⟩ := lev_facts hq hl hx ht
      unfold fitD1 fitK
      rw [ht]
      refine Eq.symm ((if_neg (by rw [h1]; decide)).trans ?_)
      rw [h1, h2]
      exact lev_fit lvl hlv
    · rw [decide_eq_false ht, Bool.false_or]
      exact fit_tell (n := 1) hA hlv (ask_keys ha x hx) ht (fun a hai y hy => ((goodQ_LO hq ha x hx a hai).2 y hy).2.2)
  rw [Bool.eq_iff_iff, List.all_eq_true, List.all_eq_true]
  exact ⟨fun h x hx => by rw [← this x hx]; exact h x hx, fun h x hx => by rw [this x hx]; exact h x hx⟩
/-- The pair of a place. -/
def pairK (A : List (List (El 3))) (lvl : Nat) (q : List (El 3)) (k : Nat) : By × By := (nm (n := 2) lvl (A.getD k []), wrS false 0 3 (q.map (ansF (n := 1) A lvl (A.getD k []))))
theorem fndP_mem (A : List (List (El 3))) (lvl : Nat) (q : List (El 3)) (x : By × By) : ∀ k, x ∈ fndP A lvl q k ↔ ∃ i, i < k ∧ goodF A lvl q i = true ∧ x = pairK A lvl q i
  | 0 => by simp [fndP]
  | k + 1 => by
    rw [fndP]
    have ih := fndP_mem A lvl q x k
    by_cases h : goodF A lvl q k = true
    · rw [if_pos h, insP_mem, ih]
      constructor
      · rintro (e | ⟨i, h1, h2, h3⟩)
        · exact ⟨k, Nat.lt_succ_self _, h, e⟩
        · exact ⟨i, by omega, h2, h3⟩
      · rintro ⟨i, h1, h2, h3⟩
        by_cases e : i = k
        · subst e; exact Or.inl h3
        · exact Or.inr ⟨i, by omega, h2, h3⟩
    · rw [if_neg h, ih]
      constructor
      · rintro ⟨i, h1, h2, h3⟩; exact ⟨i, by omega, h2, h3⟩
      · rintro ⟨i, h1, h2, h3⟩
        by_cases e : i = k
        · subst e; exact absurd h2 h
        · exact ⟨i, by omega, h2, h3⟩
theorem getD_at {α : Type} {A : List (List α)} {k : Nat} (h : k < A.length) : A.getD k [] = A[k] := by rw [List.getD_eq_getElem?_getD, List.getElem?_eq_getElem h]; rfl
theorem fndP_sorted (A : List (List (El 3))) (lvl : Nat) (q : List (El 3)) : ∀ k, k ≤ A.length → (fndP A lvl q k).Pairwise (fun a b => a.1 ≤ b.1) ∧ ((fndP A lvl q k).map (·.1)).Nodup
  | 0, _ => by simp [fndP]
  | k + 1, hk => by
    obtain ⟨h1, h2⟩ := fndP_sorted A lvl q k (by omega)
    rw [fndP]
    by_cases h : goodF A lvl q k = true
    · rw [if_pos h]
      refine ⟨insP_sorted _ h1, insP_nodup _ h2 (fun u hu e => ?_)⟩
      obtain ⟨i, hi, hg, rfl⟩ := (fndP_mem A lvl q u k).1 hu
      unfold goodF at hg
      rw [Bool.and_eq_true] at hg
      have hn := (newest_iff (n := 2) (show i < A.length by omega)).1 hg.1
      have hd : A[k] ∈ A.drop (i + 1) := List.mem_iff_getElem.2 ⟨k - (i + 1), by rw [List.length_drop]; omega, by rw [List.getElem_drop]; congr 1; omega⟩
      refine hn _ hd ?_
      have e2 : nm (n := 2) lvl (A.getD i []) = nm (n := 2) lvl (A.getD k []) := e
      rw [getD_at (show i < A.length by omega), getD_at (show k < A.length by omega)] at e2
      exact e2.symm
    · rw [if_neg h]; exact ⟨h1, h2⟩
theorem fnd_same {A : List (List (El 3))} (hG : Good (n := 1) A) {lvl : Nat} (hlv : lvl < 4) {q : List (El 3)} (hq : errS 3 0 q = 0) (hl : levO (n := 2) q = lvl) (ha : askE (n := 1) (lvl : Int) q = 0) : (fndP A lvl q A.length).map (·.2) = ansL (n := 1) A lvl q := by
  have hpair : ∀ i (hi : i < A.length), newestA (n := 2) A i lvl = true → pairK A lvl q i = (nm (n := 2) lvl A[i], ansB (n := 1) (gS (n := 1) A lvl (nm (n := 2) lvl A[i])) q) := fun i hi hn => by
    unfold pairK ansB gS
    rw [getD_at hi, last_newest (n := 2) hi hn, (ansF_ok hG hlv (List.getElem_mem hi) hq (ask_keys ha)).1]
  have hgood : ∀ i (hi : i < A.length), goodF A lvl q i = true ↔ newestA (n := 2) A i lvl = true ∧ fitN (n := 1) A lvl q (nm (n := 2) lvl A[i]) = true := fun i hi => by
    unfold goodF
    rw [Bool.and_eq_true, getD_at hi, all_fit hG.1 hlv hq hl ha]
    constructor
    · rintro ⟨h1, h2⟩
      refine ⟨h1, ?_⟩
      unfold fitN gS
      rw [last_newest (n := 2) hi h1]
      exact h2
    · rintro ⟨h1, h2⟩
      refine ⟨h1, ?_⟩
      unfold fitN gS at h2
      rw [last_newest (n := 2) hi h1] at h2
      exact h2
  obtain ⟨hs, hn⟩ := fndP_sorted A lvl q A.length (Nat.le_refl _)
  have hmem : ∀ s, s ∈ (fndP A lvl q A.length).map (·.1) ↔ s ∈ namesF (n := 1) A lvl q := fun s => by
    rw [List.mem_map, namesF_mem]
    constructor
    · rintro ⟨x, hx, rfl⟩
      obtain ⟨i, hi, hg, rfl⟩ := (fndP_mem A lvl q x A.length).1 hx
      obtain ⟨g1, g2⟩ := (hgood i hi).1 hg
      rw [hpair i hi g1]
      exact ⟨⟨A[i], List.getElem_mem hi, rfl⟩, g2⟩
    · rintro ⟨hex, hf⟩
      obtain ⟨k, hk, h1, h2⟩ := last_index (P := fun l : List (El 3) => nm (n := 2) lvl l = s) A hex
      have hnw : newestA (n := 2) A k lvl = true := (newest_iff (n := 2) hk).2 (fun o ho e => h2 o ho (e.trans h1))
      have hg : goodF A lvl q k = true := (hgood k hk).2 ⟨hnw, by rw [h1]; exact hf⟩
      exact ⟨pairK A lvl q k, (fndP_mem A lvl q _ A.length).2 ⟨k, hk, hg, rfl⟩, by rw [hpair k hk hnw]; exact h1⟩
  have hfst : (fndP A lvl q A.length).map (·.1) = (namesF (n := 1) A lvl q).mergeSort Go.leB := by
    have hp : ((fndP A lvl q A.length).map (·.1)).Perm (namesF (n := 1) A lvl q) := (List.perm_ext_iff_of_nodup hn (namesF_nodup (n := 1) A lvl q)).2 hmem
    rw [← mergeSort_of_perm hp]
    have hsrt : ((fndP A lvl q A.length).map (·.1)).Pairwise (fun a b => Go.leB a b = true) := by
      rw [List.pairwise_map]
      exact hs.imp (fun h => by simpa [Go.leB] using h)
    exact (List.mergeSort_of_pairwise hsrt).symm
  have hsnd : (fndP A lvl q A.length).map (·.2) = ((fndP A lvl q A.length).map (·.1)).map (fun s => ansB (n := 1) (gS (n := 1) A lvl s) q) := by
    rw [List.map_map]
    refine List.map_congr_left (fun x hx => ?_)
    obtain ⟨i, hi, hg, rfl⟩ := (fndP_mem A lvl q x A.length).1 hx
    obtain ⟨g1, _⟩ := (hgood i hi).1 hg
    rw [hpair i hi g1]
    rfl
  rw [hsnd, hfst]
  rfl
theorem fndR_eq {A : List (List (El 3))} (hG : Good (n := 1) A) (s : By) : fndR A s = fndL A s := by
  unfold fndR fndL
  by_cases hd : decE 3 s = 0
  · rw [if_neg (fun h => h hd), if_neg (fun h => h hd)]
    cases hp : parse 3 s with
    | none => rfl
    | some q =>
      show (if askE (n := 1) (levO (n := 2) q) q ≠ 0 then [] else _) = (if askE (n := 1) (levO (n := 2) q) q ≠ 0 then [] else _)
      by_cases ha : askE (n := 1) (levO (n := 2) q) q = 0
      · rw [if_neg (fun h => h ha), if_neg (fun h => h ha)]
        have hq : errS 3 0 q = 0 := by
          unfold decE at hd
          split at hd
          · cases hd
          · rw [hp] at hd; exact hd
        rcases levO_range (n := 2) q with h | ⟨i, hi, h⟩
        · rw [h] at ha; cases ha
        · rw [h] at ha ⊢
          exact fnd_same hG hi hq h ha
      · rw [if_pos ha, if_pos ha]
  · rw [if_pos hd, if_pos hd]
end Go.Proofs.YtaokifbpakbgdaaGreatDoor

/- Package foliolaw on archives: mark. -/
namespace Go.Proofs.YtaokifbpakbgdaaGreatDoor
open Go.RowKit

/-- Letters behind a text, for a number. -/
def lmarkC (n : Nat) (s : By) : By := if _h : n = 0 then s else lmarkC (n / 26) (s ++ [65 + UInt8.ofNat (n % 26)])
termination_by n
decreasing_by omega
def lmark (n : Nat) : By := lmarkC n [116, 104, 101, 32, 99, 97, 108, 108, 101, 114, 39, 115, 32]
theorem lmarkC_zero (s : By) : lmarkC 0 s = s := by rw [lmarkC]; rfl
theorem lmarkC_pos {n : Nat} (h : 0 < n) (s : By) : lmarkC n s = lmarkC (n / 26) (s ++ [65 + UInt8.ofNat (n % 26)]) := by rw [lmarkC, dif_neg (by omega)]
set_option maxRecDepth 20000 in
set_option maxHeartbeats 2000000 in
theorem mark_any (w : World) (n0 : Nat) (hn : n0 ≤ 17592186044416) : Calls Tryz.prog 106 #[.int .i64 n0] w fun e w' => e = .returned (.string (bs (lmark n0))) ∧ Below w.heap.size w w' := by
  go_enter Tryz.func106, Tryz.ntmps106
  go_wp2_with fail
  go_loopw [0, 3] (fun i t wr => ∃ (n : Nat) (s : By), i = .int .i64 n ∧ t = .string (bs s) ∧ n ≤ n0 ∧ s.length + n ≤ 13 + n0 ∧ Hid (lmark n0 = lmarkC n s) ∧ Hid (Below w.heap.size w wr)) (fun i _ _ => (intOf i).toNat)
  case atStart => exact ⟨n0, _, rfl, rfl, Nat.le_refl _, Nat.le_refl _, rfl, Below.refl _ _⟩
  case round =>
    obtain ⟨n, s, rfl, rfl, hn1, hsl, hE, hU⟩ := hrel
    by_cases h0 : 0 < n
    · have hE2 := hid (hE.out.trans (lmarkC_pos h0 s))
      have cv := conv1 wr (65 + (n : Int) % 26) (by omega) (by omega)
      have ez : (65 + (n : Int) % 26).toNat = 65 + n % 26 := by omega
      rw [ez] at cv
      have em : (n : Int).tmod 26 = (n : Int) % 26 := Int.tmod_eq_emod_of_nonneg (by omega)
      have eq : (n : Int).tdiv 26 = ((n / 26 : Nat) : Int) := by rw [Int.tdiv_eq_ediv_of_nonneg (by omega)]; rfl
      have hz : (0 : Int) < n := by omega
      have hlet : UInt8.ofNat (65 + n % 26) = 65 + UInt8.ofNat (n % 26) := by rw [UInt8.ofNat_add]; rfl
      rw [hlet] at cv
      obtain ⟨c, hc, hcc, _, _⟩ := cat s [65 + UInt8.ofNat (n % 26)]
      have HC := hid hc
      have hsz : (bs s).size + (bs [65 + UInt8.ofNat (n % 26)]).size ≤ 9223372036854775807 := by rw [bs_size, bs_size]; simp; omega
      clear hc hlet
      have hU2 := hid (Below.alloc hU.out hU.out.size (.cells #[.int .u8 (65 + (n : Int) % 26)] 5))
      clear hE
      go_wp2
      go_roundw
      case rel => exact ⟨n / 26, c, by go_num, rfl, by omega, by rw [HC.out, List.length_append]; simp; omega, by rw [HC.out]; exact hE2, hU2⟩
      case measure => simp [intOf]; omega
    · obtain rfl : n = 0 := by omega
      have hE2 := hid (hE.out.trans (lmarkC_zero s))
      clear hE
      go_wp2
      go_ret
      rw [hE2.out]
      exact ⟨rfl, hU.out⟩
end Go.Proofs.YtaokifbpakbgdaaGreatDoor

/- Package foliolaw on archives: the lists that came out, in memory; whole. -/
namespace Go.Proofs.YtaokifbpakbgdaaGreatDoor
open Go.RowKit

/-- A list that is written full with a text. -/
def LsAt (w : World) (G : Nat → Prop) (v : Value) (m : By) : Prop := ∃ ad len cap, v = .slice ad len cap ∧ len ≤ 100 ∧ ∀ k, k < len → ∃ g, ad = some ⟨g, 0, none⟩ ∧ G g ∧ w.cell? ⟨g, k, none⟩ = some (.string (bs m))
theorem LsAt.keep {w w' : World} {G G' : Nat → Prop} {v : Value} {m : By} (h : LsAt w G v m) (hG : ∀ j, G j → G' j) (hk : ∀ j, G j → w'.heap[j]? = w.heap[j]?) : LsAt w' G' v m := by
  obtain ⟨ad, len, cap, rfl, hl, h⟩ := h
  refine ⟨ad, len, cap, rfl, hl, fun k hk2 => ?_⟩
  obtain ⟨g, h1, h2, h3⟩ := h k hk2
  exact ⟨g, h1, hG g h2, cell_keep (p := ⟨g, k, none⟩) (hk g h2) h3⟩
/-- The lists that came out: four of each mark. -/
def Lts (w : World) (G : Nat → Prop) (wB : Nat) (lv : Value) (g : Nat) : Prop := w.cell? ⟨wB, 1, none⟩ = some lv ∧ ∃ vals, w.ownsRow 0 70 1 lv (4 * g) vals ∧ (∀ i v, vals[i]? = some v → LsAt w G v (lmark (i / 4))) ∧ (∀ j, lv.ownBlock = some j → ¬ G j ∧ j ≠ wB) ∧ ¬ G wB ∧ ∀ j, G j → j < w.heap.size
theorem Lts.keep {w w' : World} {G : Nat → Prop} {wB : Nat} {lv : Value} {g : Nat} (h : Lts w G wB lv g) (hz : w.heap.size ≤ w'.heap.size) (hc : w'.cell? ⟨wB, 1, none⟩ = some lv) (hk : ∀ j, G j ∨ lv.ownBlock = some j → w'.heap[j]? = w.heap[j]?) : Lts w' G wB lv g := by
  obtain ⟨_, vals, h1, h2, h3, h4, h5⟩ := h
  exact ⟨hc, vals, ownsRow_keep h1 (fun j hj => hk j (Or.inr (by simpa using hj))), fun i v hv => (h2 i v hv).keep (fun _ h => h) (fun j hj => hk j (Or.inl hj)), h3, h4, fun j hj => Nat.lt_of_lt_of_le (h5 j hj) hz⟩
theorem Lts.up {w w' : World} {G : Nat → Prop} {wB : Nat} {lv : Value} {g : Nat} (h : Lts w G wB lv g) (k : Below w.heap.size w w') : Lts w' G wB lv g := by
  have h0 := h
  obtain ⟨q, vals, h1, h2, h3, h4, h5⟩ := h0
  exact h.keep k.size ((k.cell (World.block_lt_of_cell? _ _ q)).trans q) (fun j hj => k.block j (hj.elim (h5 j) (fun hj => ownsRow_lt h1 j (by simpa using hj))))
set_option maxRecDepth 20000 in
set_option maxHeartbeats 4000000 in
theorem lwhole_any (w : World) (G : Nat → Prop) (wB : Nat) (lv : Value) (g : Nat) (h : Lts w G wB lv g) (hg : g ≤ 4398046511104) :
    Calls Tryz.prog 56 #[ptr wB] w fun e w' => e = .returned (.bool true) ∧ Below w.heap.size w w' := by
  have H := hid h
  obtain ⟨c0, vals, h1, h2, _⟩ := h
  obtain ⟨ad, cap, rfl⟩ := row_sl h1
  have H1 := hid h1
  have H2 := hid h2
  have C0 := hid c0
  clear h1 h2 c0
  go_enter Tryz.func56, Tryz.ntmps56
  go_wp2_with fail
  go_loopw [3] (fun i wr => ∃ k : Nat, k ≤ 4 * g ∧ i = .int .i64 k ∧ Hid (Below w.heap.size w wr)) (fun i _ => 4 * g - (intOf i).toNat)
  case atStart => exact ⟨0, Nat.zero_le _, rfl, Below.refl _ _⟩
  case round =>
    obtain ⟨k, hk, rfl, hU⟩ := hrel
    obtain ⟨wA, rfl⟩ : ∃ wA, wA = wr := ⟨_, rfl⟩
    have c0 := (hU.out.cell (World.block_lt_of_cell? _ _ C0.out)).trans C0.out
    by_cases hkl : k < 4 * g
    · have hvk : ∃ v, vals[k]? = some v := by
        have hlen : vals.length = 4 * g := by have := H1.out.1; simpa using this
        exact ⟨_, List.getElem?_eq_getElem (by omega)⟩
      obtain ⟨v, hv⟩ := hvk
      obtain ⟨gB, capB, hsl, hcell⟩ : ∃ gB capB, (Value.slice ad (4 * g) cap = .slice (some ⟨gB, 0, none⟩) (4 * g) capB) ∧ w.cell? ⟨gB, k, none⟩ = some v := by
        rcases id H1.out.2 with ⟨_, q⟩ | ⟨gB, capB, cur, e, _⟩
        · omega
        · refine ⟨gB, capB, e, ?_⟩
          have h1 := H1.out
          rw [e] at h1
          rw [h1.cellAt k (by omega)]
          exact hv
      obtain ⟨rfl, _, rfl⟩ := Value.slice.inj hsl
      have hls := hid (H2.out k v hv)
      obtain ⟨ad2, len, cap2, rfl, hl100, hcs⟩ := H2.out k v hv
      have HCS := hid hcs
      have d0 := (hU.out.cell (World.block_lt_of_cell? _ _ hcell)).trans hcell
      have HD := hid hcell
      have eq4 : (k : Int).tdiv 4 = ((k / 4 : Nat) : Int) := by rw [Int.tdiv_eq_ediv_of_nonneg (by omega)]; rfl
      have C1 := hid (mark_any wA (k / 4) (by omega))
      clear hsl hcs hcell hls
      go_wp2_with fail
      go_at_call 106
      refine C1.out.mono ?_
      rintro e w1 ⟨rfl, u1⟩
      have U1 := hid (hU.out.trans (u1.mono hU.out.size))
      clear u1 C1 c0 d0
      generalize lmark (k / 4) = m at HCS
      go_wp2_with fail
      go_loop [5] (fun j => ∃ i : Nat, i ≤ len ∧ j = .int .i64 i) (fun j => len - (intOf j).toNat)
      case atStart => exact ⟨0, Nat.zero_le _, rfl⟩
      case round =>
        obtain ⟨i, hi, rfl⟩ := hrel
        have c1 := (U1.out.cell (World.block_lt_of_cell? _ _ C0.out)).trans C0.out
        have d1 := (U1.out.cell (World.block_lt_of_cell? _ _ HD.out)).trans HD.out
        have x1 := bs_toList m
        by_cases hil : i < len
        · obtain ⟨gL, rfl, _, e0⟩ := HCS.out i hil
          have e1 := (U1.out.cell (World.block_lt_of_cell? _ _ e0)).trans e0
          clear e0
          go_wp2
          go_round
          case rel => exact ⟨i + 1, by omega, by go_num⟩
          case measure => simp [intOf]; omega
        · go_wp2
          go_roundw
          case rel => exact ⟨k + 1, by omega, by go_num, U1⟩
          case measure => simp [intOf]; omega
    · have hkz : ¬ (k : Int) < ((4 * g : Nat) : Int) := by omega
      go_wp2
      go_ret
      exact ⟨rfl, hU.out⟩
end Go.Proofs.YtaokifbpakbgdaaGreatDoor

/- 'append' to a row of one's own, the old list reading on; a cell of such a row written (no program). -/
namespace Go.Proofs.YtaokifbpakbgdaaGreatDoor
open Go.RowKit

/-- 'append' to a row of one's own: the old list reads on as it did. -/
theorem wpList_append_two {P : Program} (w : World) {ops : Array Oper} {rest : List Oper} {o : Oper} {a : Act} {Q : Exit → Act → World → Prop}
    (hg : o.guard = none) (s x : Operand) (t : TypeId) (hop : o.op = Op.call { callee := Callee.builtin Builtin.append, args := #[s, x], argTypes := #[t, t] })
    (e : TypeId) (i : TypeInfo) (z : Value) (size bytes : Nat) (h1 : P.underlying t = some (.slice e)) (h2 : P.info? e = some i) (h3 : i.zero = some z) (h4 : i.size = size) (h5 : i.bytes = bytes) (h6 : z.cells.size = size) (h7 : 0 < size)
    (v : Value) (n : Nat) (xs : List Value) (hs : a.eval s = v) (hown : w.ownsRow 0 e size v n xs)
    (ad : Addr) (m c : Nat) (news : List Value) (hx : a.eval x = .slice (some ad) m c) (hn : news.length = m * size) (hc : ∀ j u, news[j]? = some u → w.cell? (ad.add j) = some u) (h1c : ∀ u ∈ news, u.oneCell' = true)
    (b1 : n + m ≤ maxLen) (b2 : (n + m) * bytes ≤ 140737488355328)
    (hK : ∀ v' w', w'.ownsRow 0 e size v' (n + m) (xs ++ news) → w.grownBy w' v.ownBlock → Moved w v v' → w'.ownsRow 0 e size v n xs → wpList P ops Q rest (a.put o.dst v') w') :
    wpList P ops Q (o :: rest) a w := by
  have weak : ∀ {w' : World} {v' : Value} {k : Nat} {ys : List Value}, w'.ownsRow w.heap.size e size v' k ys → w'.ownsRow 0 e size v' k ys ∧ ∀ g ∈ v'.ownBlock.toList, w.heap.size ≤ g := by
    rintro w' v' k ys ⟨q1, q2⟩
    rcases q2 with ⟨rfl, q2⟩ | ⟨g, cap, cur, rfl, q2, q3⟩
    · exact ⟨⟨q1, Or.inl ⟨rfl, q2⟩⟩, fun g hg => by cases hg⟩
    · exact ⟨⟨q1, Or.inr ⟨g, cap, cur, rfl, Nat.zero_le _, q3⟩⟩, fun j hj => by simp [Value.ownBlock] at hj; omega⟩
  obtain ⟨k1, k2⟩ := id hown
  rcases k2 with ⟨rfl, rfl⟩ | ⟨g, cap, cur, rfl, _⟩
  · have : xs = [] := List.eq_nil_of_length_eq_zero (by simpa using k1)
    subst this
    exact wpList_append_own w hg s x t hop w.heap.size e i z size bytes h1 h2 h3 h4 h5 h6 h7 _ 0 [] hs (World.ownsRow_nil _ _ _ _) ad m c news hx hn hc h1c b1 b2 (Nat.le_refl _) (fun v' w' q1 q2 _ => hK v' w' (weak q1).1 q2 (Or.inr (weak q1).2) (World.ownsRow_nil _ _ _ _))
  · by_cases hf : n + m ≤ cap
    · refine wpList_append_fits w hg s x t hop 0 e i size h1 h2 h4 g n cap xs hs hown ad m c news hx hn hc h1c hf (fun w' q1 q2 => hK _ w' q1 q2 (Or.inl rfl) ⟨k1, Or.inr ?_⟩)
      rcases q1.2 with ⟨q, _⟩ | ⟨g', cap', cur', q, q3, q4, q5, q6, q7, q8⟩
      · cases q
      · injection q with q1' _ q3'
        injection q1' with q1'
        injection q1' with q1'
        subst q1'
        subst q3'
        refine ⟨g, cap, cur', rfl, Nat.zero_le _, q4, by omega, q6, q7, ?_⟩
        have : (xs ++ news).take (n * size) = xs := by rw [← k1, List.take_left]
        rw [← q8, List.take_take, Nat.min_eq_left (Nat.mul_le_mul_right _ (by omega))] at this
        exact this
    · refine wpList_append_grows w hg s x t hop e i z size bytes h1 h2 h3 h4 h5 h6 h7 _ n cap xs hs (fun h => by cases h) k1 (fun b hb j u hu => ?_) ad m c news hx hn hc h1c (by omega) b1 b2 (fun v' w' q1 q2 => hK v' w' (weak q1).1 ?_ (Or.inr (weak q1).2) (ownsRow_keep hown (fun j hj => q2.block j (ownsRow_lt hown j hj) (by simp))))
      · obtain rfl := Option.some.inj hb
        have hj := (List.getElem?_eq_some_iff.1 hu).1
        rw [Addr.add_lit, Nat.zero_add, hown.cellAt _ (by omega)]
        exact hu
      · exact ⟨q2.os, q2.tape, q2.output, q2.size, fun k hk _ => q2.block k hk (by simp)⟩
theorem set_block {w : World} {g j : Nat} {xs : Array Value} {T : TypeId} (h : w.heap[g]? = some (.cells xs T (0, 0))) (u : Value) : (w.setCell ⟨g, j, none⟩ u).heap[g]? = some (.cells (xs.setIfInBounds j u) T (0, 0)) := by
  rw [setCell_eq_setRow w g j xs T (0, 0) u h]
  exact setRow_heap w g xs _ T _ h
theorem own_set {w : World} {T : TypeId} {size g n cap j : Nat} {xs : List Value} (h : w.ownsRow 0 T size (.slice (some ⟨g, 0, none⟩) n cap) n xs) (_hj : j < n * size) (u : Value) : (w.setCell ⟨g, j, none⟩ u).ownsRow 0 T size (.slice (some ⟨g, 0, none⟩) n cap) n (xs.set j u) := by
  obtain ⟨k1, k2⟩ := h
  refine ⟨by rw [List.length_set]; exact k1, Or.inr ?_⟩
  rcases k2 with ⟨q, _⟩ | ⟨g', cap', cur, q, _, q4, q5, q6, q7, q8⟩
  · cases q
  injection q with q1 _ q3
  injection q1 with q1
  injection q1 with q1
  subst q1
  subst q3
  refine ⟨g, cap, cur.setIfInBounds j u, rfl, Nat.zero_le _, set_block q4 u, q5, q6, by simpa using q7, ?_⟩
  rw [Array.toList_setIfInBounds, List.take_set, q8]
end Go.Proofs.YtaokifbpakbgdaaGreatDoor

/- Package foliolaw on archives: keep. -/
namespace Go.Proofs.YtaokifbpakbgdaaGreatDoor
open Go.RowKit

/-- Nothing that was there has turned, but for one row. -/
def Chg (row : Option Nat) (w w' : World) : Prop := (w'.os = w.os ∧ w'.tape = w.tape ∧ w'.output = w.output) ∧ w.heap.size ≤ w'.heap.size ∧ ∀ j, j < w.heap.size → some j ≠ row → w'.heap[j]? = w.heap[j]?
theorem Chg.refl (row : Option Nat) (w : World) : Chg row w w := ⟨⟨rfl, rfl, rfl⟩, Nat.le_refl _, fun _ _ _ => rfl⟩
theorem Chg.of {row : Option Nat} {w w' : World} (u : Below w.heap.size w w') : Chg row w w' := ⟨⟨u.os, u.tape, u.output⟩, u.size, fun j hj _ => u.block j hj⟩
theorem Chg.set {row : Option Nat} {w w' : World} (h : Chg row w w') {g i : Nat} (hg : row = some g) (u : Value) : Chg row w (w'.setCell ⟨g, i, none⟩ u) :=
  ⟨h.1, by have := h.2.1; simpa using this, fun j hj hn => (Below.heap_setCell w' ⟨g, i, none⟩ u j (fun e => hn (by rw [hg]; exact congrArg some e))).trans (h.2.2 j hj hn)⟩
theorem LsAt.own {w : World} {G : Nat → Prop} {v : Value} {n : Nat} {m : By} (h : w.ownsRow 0 9 1 v n (List.replicate n (stW m))) (hn : n ≤ 100) (hG : ∀ j, v.ownBlock = some j → G j) : LsAt w G v m := by
  rcases id h.2 with ⟨rfl, e⟩ | ⟨g, cap, cur, rfl, _⟩
  · exact ⟨none, 0, 0, rfl, by decide, fun k hk => by omega⟩
  · refine ⟨_, n, cap, rfl, hn, fun k hk => ⟨g, rfl, hG g rfl, ?_⟩⟩
    rw [h.cellAt k (by omega)]
    simp [hk]
/-- A list lies on where a longer one, in its block or not, was lengthened. -/
theorem LsAt.over {w w' : World} {G : Nat → Prop} {v v1 : Value} {m : By} {n n1 : Nat} (h : LsAt w G v m) (hlen : ∀ ad len cap, v = .slice ad len cap → len ≤ n1) (hG : ∀ j, G j → j < w.heap.size) (ho : w'.ownsRow 0 9 1 v1 n1 (List.replicate n1 (stW m))) (hk : ∀ j, j < w.heap.size → some j ≠ v1.ownBlock → w'.heap[j]? = w.heap[j]?) (_hn : n ≤ n1) : LsAt w' G v m := by
  obtain ⟨ad, len, cap, rfl, hl, hc⟩ := h
  have hle := hlen _ _ _ rfl
  refine ⟨ad, len, cap, rfl, hl, fun k hkl => ?_⟩
  obtain ⟨g, h1, h2, h3⟩ := hc k hkl
  refine ⟨g, h1, h2, ?_⟩
  by_cases e : some g = v1.ownBlock
  · rcases id ho.2 with ⟨rfl, _⟩ | ⟨g1, cap1, cur, rfl, _⟩
    · simp [Value.ownBlock] at e
    · simp only [Value.ownBlock, Option.some.injEq] at e
      subst e
      rw [ho.cellAt k (by omega)]
      simp [show k < n1 by omega]
  · exact cell_keep (p := ⟨g, k, none⟩) (hk g (hG g h2) e) h3
theorem set_rep {m : Value} {xs : List Value} {i : Nat} (h : i < xs.length) : (List.replicate i m ++ xs.drop i).set i m = List.replicate (i + 1) m ++ xs.drop (i + 1) := by
  rw [List.set_append_right _ _ (by simp), List.length_replicate, Nat.sub_self, List.drop_eq_getElem_cons h, List.set_cons_zero, List.replicate_succ', List.append_assoc]
  rfl
/-- Where what came out lies, and what has been laid since. -/
def FrX (w : World) (v : Value) (j : Nat) : Prop := v.ownBlock = some j ∨ w.heap.size ≤ j
def RelX (w : World) (v : Value) (W : World) : Prop := (W.os = w.os ∧ W.tape = w.tape ∧ W.output = w.output) ∧ w.heap.size ≤ W.heap.size ∧ ∀ j, j < w.heap.size → v.ownBlock ≠ some j → W.heap[j]? = w.heap[j]?
/-- A list of at most n marks. -/
def LX (w : World) (v : Value) (W : World) (m : By) (n : Nat) (u : Value) : Prop := LsAt W (fun j => FrX w v j ∧ j < W.heap.size) u m ∧ ∀ ad len cap, u = .slice ad len cap → len ≤ n
theorem app_step {w W W' : World} {v a a' : Value} {m : By} {n : Nat} {o : Obj} {us : List Value} (hR : RelX w v W) (hus : ∀ u ∈ us, LX w v W m n u) (ha : ∀ j, a.ownBlock = some j → FrX w v j) (hn : n < 100)
    (hown : W'.ownsRow 0 9 1 a' (n + 1) (List.replicate n (stW m) ++ [stW m])) (hg : (W.alloc o).grownBy W' a.ownBlock) (hv : Moved (W.alloc o) a a') (hold : W'.ownsRow 0 9 1 a n (List.replicate n (stW m))) :
    RelX w v W' ∧ (∀ u ∈ us ++ [a'], LX w v W' m (n + 1) u) ∧ (∀ j, a'.ownBlock = some j → FrX w v j) ∧ W'.ownsRow 0 9 1 a' (n + 1) (List.replicate (n + 1) (stW m)) := by
  have hz : W.heap.size ≤ W'.heap.size := by have := hg.size; rw [World.size_alloc] at this; omega
  have hk : ∀ j, j < W.heap.size → some j ≠ a.ownBlock → W'.heap[j]? = W.heap[j]? := fun j hj hne => (hg.block j (by rw [World.size_alloc]; omega) hne).trans (Below.heap_alloc _ _ _ hj)
  have hfr : ∀ j, a'.ownBlock = some j → FrX w v j := fun j hj => by
    rcases hv with e | e
    · exact ha j (e ▸ hj)
    · have := e j (by rw [hj]; simp)
      rw [World.size_alloc] at this
      exact Or.inr (by have := hR.2.1; omega)
  have hrep : List.replicate n (stW m) ++ [stW m] = List.replicate (n + 1) (stW m) := by rw [List.replicate_succ']
  rw [hrep] at hown
  refine ⟨⟨⟨hg.os.trans hR.1.1, hg.tape.trans hR.1.2.1, hg.output.trans hR.1.2.2⟩, Nat.le_trans hR.2.1 hz, fun j hj hne => (hk j (Nat.lt_of_lt_of_le hj hR.2.1) (fun e => ?_)).trans (hR.2.2 j hj hne)⟩, fun u hu => ?_, hfr, hown⟩
  · rcases ha j e.symm with h | h
    · exact hne h
    · omega
  · rcases List.mem_append.1 hu with hu | hu
    · obtain ⟨h1, h2⟩ := hus u hu
      exact ⟨(h1.over (n := n) h2 (fun j hj => hj.2) hold hk (Nat.le_refl _)).keep (fun j hj => ⟨hj.1, Nat.lt_of_lt_of_le hj.2 hz⟩) (fun _ _ => rfl), fun ad len cap e => Nat.le_succ_of_le (h2 ad len cap e)⟩
    · rw [List.mem_singleton] at hu
      subst hu
      refine ⟨LsAt.own hown (by omega) (fun j hj => ⟨hfr j hj, ownsRow_lt hown j (by simpa using hj)⟩), fun ad len cap e => ?_⟩
      obtain ⟨ad2, cap2, e2⟩ := row_sl hown
      rw [e2] at e
      injection e with _ e3
      omega
theorem info_strs : (Tryz.prog.info? 70).map (fun i => (i.zero, i.size, i.bytes)) = some (some (.slice none 0 0), 1, 24) := by kernel_rfl
/-- How keeping ends. -/
def KeepEnd (w : World) (G : Nat → Prop) (wB : Nat) (pv lv v : Value) (g : Nat) (e : Ending) (w' : World) : Prop := e = .returned (.tuple #[]) ∧ ∃ lv' G', Lts w' G' wB lv' (g + 1) ∧ w'.heap[wB]? = some (.cells #[pv, lv'] 32 (0, 0)) ∧ (w'.os = w.os ∧ w'.tape = w.tape ∧ w'.output = w.output) ∧ w.heap.size ≤ w'.heap.size ∧
  (∀ j, j < w.heap.size → j ≠ wB → v.ownBlock ≠ some j → lv.ownBlock ≠ some j → w'.heap[j]? = w.heap[j]?) ∧ (∀ j, G' j → G j ∨ FrX w v j) ∧ ∀ j, lv'.ownBlock = some j → lv.ownBlock = some j ∨ w.heap.size ≤ j
theorem two_set1 {W : World} {T : TypeId} {B : Nat} {c0 c1 : Value} (h : W.heap[B]? = some (.cells #[c0, c1] T (0, 0))) (u : Value) : (W.setCell ⟨B, 1, none⟩ u).heap[B]? = some (.cells #[c0, u] T (0, 0)) := by
  rw [set_block h u]
  rfl
theorem keep_end {w W W' : World} {G : Nat → Prop} {wB : Nat} {pv lv lv' v v1 v2 v3 : Value} {g : Nat} {vals : List Value} {o : Obj} (hB : w.heap[wB]? = some (.cells #[pv, lv] 32 (0, 0))) (h : Lts w G wB lv g) (hv : ∀ j, v.ownBlock = some j → ¬ G j ∧ j ≠ wB ∧ lv.ownBlock ≠ some j) (hrow : w.ownsRow 0 70 1 lv (4 * g) vals) (hvals : ∀ i u, vals[i]? = some u → LsAt w G u (lmark (i / 4)))
    (hR : RelX w v W) (hus : ∀ u ∈ [v, v1, v2, v3], LX w v W (lmark g) 51 u) (hO : W'.ownsRow 0 70 1 lv' (4 * g + 4) (vals ++ [v, v1, v2, v3])) (hg : (W.alloc o).grownBy W' lv.ownBlock) (hmv : Moved (W.alloc o) lv lv') {e : Ending} (he : e = .returned (.tuple #[])) : KeepEnd w G wB pv lv v g e (W'.setCell ⟨wB, 1, none⟩ lv') := by
  obtain ⟨_, vals0, r0, _, hl1, hwG, hGl⟩ := h
  have hBl := lt_of_block hB
  have hlvl : ∀ j, lv.ownBlock = some j → j < w.heap.size := fun j hj => ownsRow_lt hrow j (by simpa using hj)
  have hz : W.heap.size ≤ W'.heap.size := by have := hg.size; rw [World.size_alloc] at this; omega
  have hk : ∀ j, j < W.heap.size → lv.ownBlock ≠ some j → W'.heap[j]? = W.heap[j]? := fun j hj hne => (hg.block j (by rw [World.size_alloc]; omega) (fun e => hne e.symm)).trans (Below.heap_alloc _ _ _ hj)
  have hwBv : v.ownBlock ≠ some wB := fun e => (hv wB e).2.1 rfl
  have hwBl : lv.ownBlock ≠ some wB := fun e => (hl1 wB e).2 rfl
  have hB' : W'.heap[wB]? = some (.cells #[pv, lv] 32 (0, 0)) := (hk wB (Nat.lt_of_lt_of_le hBl hR.2.1) hwBl).trans ((hR.2.2 wB hBl hwBv).trans hB)
  have hset : ∀ j, j ≠ wB → (W'.setCell ⟨wB, 1, none⟩ lv').heap[j]? = W'.heap[j]? := fun j hj => Below.heap_setCell _ _ _ _ hj
  have hlv' : ∀ j, lv'.ownBlock = some j → lv.ownBlock = some j ∨ W.heap.size ≤ j := fun j hj => by
    rcases hmv with e | e
    · exact Or.inl (e ▸ hj)
    · have := e j (by rw [hj]; simp)
      rw [World.size_alloc] at this
      exact Or.inr (by omega)
  have hB2 := two_set1 hB' lv'
  have hold : ∀ j, G j → (W'.setCell ⟨wB, 1, none⟩ lv').heap[j]? = w.heap[j]? := fun j hj => by
    rw [hset j (fun e => hwG (e ▸ hj)), hk j (Nat.lt_of_lt_of_le (hGl j hj) hR.2.1) (fun e => (hl1 j e).1 hj), hR.2.2 j (hGl j hj) (fun e => (hv j e).1 hj)]
  have hnew : ∀ j, FrX w v j ∧ j < W.heap.size → (W'.setCell ⟨wB, 1, none⟩ lv').heap[j]? = W.heap[j]? := fun j hj => by
    have h1 : j ≠ wB := fun e => by
      subst e
      rcases hj.1 with h | h
      · exact hwBv h
      · omega
    have h2 : lv.ownBlock ≠ some j := fun e => by
      rcases hj.1 with h | h
      · exact (hv j h).2.2 e
      · have := hlvl j e; omega
    rw [hset j h1, hk j hj.2 h2]
  refine ⟨he, lv', fun j => G j ∨ (FrX w v j ∧ j < W.heap.size), ⟨by simp [World.cell?, hB2], vals ++ [v, v1, v2, v3], ?_, fun i u hu => ?_, fun j hj => ?_, ?_, fun j hj => ?_⟩, hB2, ⟨hg.os.trans hR.1.1, hg.tape.trans hR.1.2.1, hg.output.trans hR.1.2.2⟩, ?_, fun j hj h1 h2 h3 => ?_, fun j hj => ?_, fun j hj => ?_⟩
  · rw [show 4 * (g + 1) = 4 * g + 4 by omega]
    refine ownsRow_keep hO (fun j hj => hset j (fun e => ?_))
    rcases hlv' j (by simpa using hj) with h | h
    · exact hwBl (e ▸ h)
    · have := hR.2.1; omega
  · have hvl : vals.length = 4 * g := by have := hrow.1; simpa using this
    by_cases hi : i < vals.length
    · rw [List.getElem?_append_left hi] at hu
      exact (hvals i u hu).keep (fun j hj => Or.inl hj) hold
    · rw [List.getElem?_append_right (by omega)] at hu
      have hi4 : i - vals.length < 4 := by have := (List.getElem?_eq_some_iff.1 hu).1; simpa using this
      have hm : u ∈ [v, v1, v2, v3] := List.mem_of_getElem? hu
      rw [show i / 4 = g by omega]
      exact (hus u hm).1.keep (fun j hj => Or.inr hj) hnew
  · refine ⟨fun hG => ?_, fun e => ?_⟩
    · rcases hlv' j hj with h | h
      · rcases hG with hG | ⟨hG, _⟩
        · exact (hl1 j h).1 hG
        · rcases hG with hG | hG
          · exact (hv j hG).2.2 h
          · have := hlvl j h; omega
      · rcases hG with hG | ⟨_, hG⟩
        · have := hGl j hG; have := hR.2.1; omega
        · omega
    · subst e
      rcases hlv' _ hj with h | h
      · exact hwBl h
      · have := hR.2.1; omega
  · rintro (h | ⟨h, _⟩)
    · exact hwG h
    · rcases h with h | h
      · exact hwBv h
      · omega
  · have hzz : (W'.setCell ⟨wB, 1, none⟩ lv').heap.size = W'.heap.size := by simp
    rw [hzz]
    rcases hj with h | ⟨_, h⟩
    · have := hGl j h; have := hR.2.1; omega
    · omega
  · have := hR.2.1
    simp
    omega
  · rw [hset j h1, hk j (Nat.lt_of_lt_of_le hj hR.2.1) h3, hR.2.2 j hj h2]
  · rcases hj with h | ⟨h, _⟩
    · exact Or.inl h
    · exact Or.inr h
  · rcases hlv' j hj with h | h
    · exact Or.inl h
    · exact Or.inr (by have := hR.2.1; omega)
set_option maxRecDepth 20000 in
set_option maxHeartbeats 8000000 in
theorem lkeep_any (w : World) (G : Nat → Prop) (wB : Nat) (pv lv v : Value) (g n : Nat) (xs : List Value) (hB : w.heap[wB]? = some (.cells #[pv, lv] 32 (0, 0))) (h : Lts w G wB lv g) (ho : w.ownsRow 0 9 1 v n xs) (hn : n ≤ 48) (hg : g ≤ 1000000000000) (hv : ∀ j, v.ownBlock = some j → ¬ G j ∧ j ≠ wB ∧ lv.ownBlock ≠ some j) :
    Calls Tryz.prog 103 #[ptr wB, v] w (KeepEnd w G wB pv lv v g) := by
  obtain ⟨i0, hi0, hz0, hz1, hz2⟩ := info_parts info_str
  obtain ⟨i1, hi1, hy0, hy1, hy2⟩ := info_parts info_strs
  have HI := hid hi0
  have HI1 := hid hi1
  clear hi0 hi1
  have H := hid h
  have HB := hid hB
  have HO := hid ho
  have HV := hid hv
  obtain ⟨c0, vals, hrow, hvals, _⟩ := h
  have HVL := hid hvals
  clear hvals
  obtain ⟨adl, capl, rfl⟩ := row_sl hrow
  obtain ⟨adv, capv, rfl⟩ := row_sl ho
  have HROW := hid hrow
  have eq4 : ((4 * g : Nat) : Int).tdiv 4 = ((g : Nat) : Int) := by rw [Int.tdiv_eq_ediv_of_nonneg (by omega)]; omega
  have C1 := hid (mark_any w g (by omega))
  clear hrow hB ho hv
  go_enter Tryz.func103, Tryz.ntmps103
  go_wp2_with fail
  go_at_call 106
  refine C1.out.mono ?_
  rintro e w1 ⟨rfl, u1⟩
  have U1 := hid u1
  have O1 := hid (ownsRow_keep HO.out (fun j hj => u1.block j (ownsRow_lt HO.out j hj)))
  have hxl : xs.length = n := by have := HO.out.1; simpa using this
  clear u1 C1 c0
  generalize hm : lmark g = m
  have HM := hid hm
  clear hm
  go_wp2_with fail
  go_loopw [5] (fun i wr => ∃ k : Nat, k ≤ n ∧ i = .int .i64 k ∧ Hid (wr.ownsRow 0 9 1 (.slice adv n capv) n (List.replicate k (stW m) ++ xs.drop k)) ∧ Hid (Chg (Value.slice adv n capv).ownBlock w1 wr)) (fun i _ => n - (intOf i).toNat)
  case atStart => exact ⟨0, Nat.zero_le _, rfl, O1, Chg.refl _ _⟩
  case round =>
    obtain ⟨k, hk, rfl, hO, hC⟩ := hrel
    by_cases hkl : k < n
    · obtain ⟨gB, hadv⟩ : ∃ gB, adv = some ⟨gB, 0, none⟩ := by
        rcases id hO.out.2 with ⟨e, _⟩ | ⟨gB, capB, cur, e, _⟩
        · injection e with e1 e2; omega
        · injection e with e1; exact ⟨gB, e1⟩
      subst hadv
      have hc := hO.out.cellAt k (by omega)
      have hlt : k < (List.replicate k (stW m) ++ xs.drop k).length := by simp; omega
      rw [List.getElem?_eq_getElem hlt] at hc
      have hfz : wr.frozen? ⟨gB, k, none⟩ = false := by
        rcases id hO.out.2 with ⟨e, _⟩ | ⟨g', capB, cur, e, _, hh, _⟩
        · cases e
        · injection e with e1
          injection e1 with e1
          injection e1 with e1
          subst e1
          simp [World.frozen?, hh]
      have O2 := hid (own_set hO.out (j := k) (by omega) (stW m))
      rw [set_rep (by omega)] at O2
      have C2 := hid (hC.out.set (g := gB) (i := k) rfl (stW m))
      generalize (List.replicate k (stW m) ++ xs.drop k)[k] = old at hc
      go_wp2
      go_roundw
      case rel => exact ⟨k + 1, by omega, by go_num, O2, C2⟩
      case measure => simp [intOf]; omega
    · obtain rfl : k = n := by omega
      have O2 := hid (show wr.ownsRow 0 9 1 (.slice adv k capv) k (List.replicate k (stW m)) from by have := hO.out; rwa [List.drop_eq_nil_of_le (by omega), List.append_nil] at this)
      clear hO
      have R2 := hid (show RelX w (.slice adv k capv) wr from ⟨⟨hC.out.1.1.trans U1.out.os, hC.out.1.2.1.trans U1.out.tape, hC.out.1.2.2.trans U1.out.output⟩, Nat.le_trans U1.out.size hC.out.2.1, fun j hj hne => (hC.out.2.2 j (Nat.lt_of_lt_of_le hj U1.out.size) (fun e => hne e.symm)).trans (U1.out.block j hj)⟩)
      have us0 := hid (show ∀ u ∈ [Value.slice adv k capv], LX w (.slice adv k capv) wr m k u from fun u hu => by
        rw [List.mem_singleton] at hu
        subst hu
        exact ⟨LsAt.own O2.out (by omega) (fun j hj => ⟨Or.inl hj, ownsRow_lt O2.out j (by simpa using hj)⟩), fun ad len cap e => by injection e with _ e; omega⟩)
      clear hC
      go_wp2_with (at_builtin; refine wpList_append_two _ rfl _ _ 70 rfl 9 i0 (.string ByteArray.empty) 1 16 Tryz.underlying70 HI.out hz0 hz1 hz2 rfl (by decide) _ _ _ rfl (O2.out.alloc _) ⟨wr.heap.size, 0, none⟩ 1 1 [.string (bs m)] rfl rfl (one_at _ _ _) (by intro u hu; simp at hu; subst hu; rfl) (by unfold maxLen; omega) (by omega) ?_)
      intro v1 w3 ho hg hmv hold
      have S1 := hid (app_step R2.out us0.out (fun j hj => Or.inl hj) (by omega) ho hg hmv hold)
      have OS1 := hid S1.out.2.2.2
      obtain ⟨adv1, capv1, rfl⟩ := row_sl ho
      clear ho hg hmv hold
      go_wp2_with (at_builtin; refine wpList_append_two _ rfl _ _ 70 rfl 9 i0 (.string ByteArray.empty) 1 16 Tryz.underlying70 HI.out hz0 hz1 hz2 rfl (by decide) _ _ _ rfl (OS1.out.alloc _) ⟨w3.heap.size, 0, none⟩ 1 1 [.string (bs m)] rfl rfl (one_at _ _ _) (by intro u hu; simp at hu; subst hu; rfl) (by unfold maxLen; omega) (by omega) ?_)
      intro v2 w4 ho hg hmv hold
      have S2 := hid (app_step S1.out.1 S1.out.2.1 S1.out.2.2.1 (by omega) ho hg hmv hold)
      have OS2 := hid S2.out.2.2.2
      obtain ⟨adv2, capv2, rfl⟩ := row_sl ho
      clear ho hg hmv hold
      go_wp2_with (at_builtin; refine wpList_append_two _ rfl _ _ 70 rfl 9 i0 (.string ByteArray.empty) 1 16 Tryz.underlying70 HI.out hz0 hz1 hz2 rfl (by decide) _ _ _ rfl (OS2.out.alloc _) ⟨w4.heap.size, 0, none⟩ 1 1 [.string (bs m)] rfl rfl (one_at _ _ _) (by intro u hu; simp at hu; subst hu; rfl) (by unfold maxLen; omega) (by omega) ?_)
      intro v3 w5 ho hg hmv hold
      have S3 := hid (app_step S2.out.1 S2.out.2.1 S2.out.2.2.1 (by omega) ho hg hmv hold)
      have OS3 := hid S3.out.2.2.2
      obtain ⟨adv3, capv3, rfl⟩ := row_sl ho
      clear ho hg hmv hold
      have hlvv : ∀ j, (Value.slice adl (4 * g) capl).ownBlock = some j → (Value.slice adv k capv).ownBlock ≠ some j := fun j hj e => (HV.out j e).2.2 hj
      have OL := hid (ownsRow_keep HROW.out (w' := w5) (fun j hj => S3.out.1.2.2 j (ownsRow_lt HROW.out j hj) (hlvv j (by simpa using hj))))
      have B5 := (S3.out.1.2.2 wB (lt_of_block HB.out) (fun e => (HV.out wB e).2.1 rfl)).trans HB.out
      have c5 : w5.cell? ⟨wB, 1, none⟩ = some (.slice adl (4 * g) capl) := by simp [World.cell?, B5]
      clear B5
      go_wp2_with (at_builtin; refine wpList_append_two _ rfl _ _ 30 rfl 70 i1 (.slice none 0 0) 1 24 Tryz.underlying30 HI1.out hy0 hy1 hy2 rfl (by decide) _ _ _ rfl (OL.out.alloc _) ⟨w5.heap.size, 0, none⟩ 4 4 [.slice adv k capv, .slice adv1 (k + 1) capv1, .slice adv2 (k + 1 + 1) capv2, .slice adv3 (k + 1 + 1 + 1) capv3] rfl rfl (four_at _ _ _ _ _ _ _ rfl) (by intro u hu; simp at hu; rcases hu with rfl | rfl | rfl | rfl <;> rfl) (by unfold maxLen; omega) (by omega) ?_)
      intro lv' w6 ho hg hmv _
      obtain ⟨ad6, cap6, rfl⟩ := row_sl ho
      have KE := hid (fun (e : Ending) (he : e = .returned (.tuple #[])) => keep_end HB.out H.out HV.out HROW.out HVL.out S3.out.1 (fun u hu => by
        have := S3.out.2.1 u (by simpa using hu)
        rw [← HM.out] at this
        exact ⟨this.1, fun ad len cap e => Nat.le_trans (this.2 ad len cap e) (by omega)⟩) ho hg hmv he)
      have B6 : w6.heap[wB]? = some (.cells #[pv, .slice adl (4 * g) capl] 32 (0, 0)) := by
        have hwl : some wB ≠ (Value.slice adl (4 * g) capl).ownBlock := fun e => by obtain ⟨_, _, _, _, q, _⟩ := H.out; exact (q wB e.symm).2 rfl
        have hz5 := S3.out.1.2.1
        have hbl := lt_of_block HB.out
        rw [hg.block wB (by rw [World.size_alloc]; omega) hwl, Below.heap_alloc _ _ _ (by omega)]
        exact (S3.out.1.2.2 wB hbl (fun e => (HV.out wB e).2.1 rfl)).trans HB.out
      have c6 : w6.cell? ⟨wB, 1, none⟩ = some (.slice adl (4 * g) capl) := by simp [World.cell?, B6]
      have f6 : w6.frozen? ⟨wB, 1, none⟩ = false := by simp [World.frozen?, B6]
      clear ho hg hmv B6 hlvv
      go_wp2
      go_end0
      exact KE.out _ rfl
end Go.Proofs.YtaokifbpakbgdaaGreatDoor
