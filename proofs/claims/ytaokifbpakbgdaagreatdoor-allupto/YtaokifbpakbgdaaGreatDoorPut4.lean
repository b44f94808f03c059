/-
  Several texts in one; what each one has stands at its head.
-/
import Derived.WalkKit
import Derived.Test.YtaokifbpakbgdaaGreatDoorPut1
import Derived.Laws.IdiomStrings
import Derived.ArgAppend
import Derived.Lib.ConvBytes
/- Data sets as trees, as bytes, and what is wrong with them (no program): the bytes of a data set by lengths or by marks; a reader of such bytes; the first thing that is wrong. -/
namespace Go.Proofs.YtaokifbpakbgdaaGreatDoor

abbrev By := List UInt8
/-- An element, known down to a depth; nothing is known of one at depth 0. -/
def El : Nat → Type
  | 0 => Unit
  | n + 1 => Int × By × By × List (List (El n))
abbrev Its (n : Nat) := List (List (El n))
def mkE : (n : Nat) → Int → By → By → Its (n - 1) → El n
  | 0, _, _, _, _ => ()
  | _ + 1, t, k, v, its => (t, k, v, its)

abbrev SQ : By := [83, 81]
abbrev UI : By := [85, 73]
def padB (k : By) : UInt8 := if k = UI then 0 else 32
def kinds : List By := [[85, 73], [67, 83], [76, 79], [80, 78], [68, 65], [84, 77], [73, 83], [83, 81]]
def isK (k : By) : Bool := kinds.contains k

/-- The number that bytes are, the lowest first; a number as so many bytes. -/
def le : By → Nat
  | [] => 0
  | c :: l => c.toNat + 256 * le l
def lows : Nat → Nat → By
  | 0, _ => []
  | k + 1, n => UInt8.ofNat (n % 256) :: lows k (n / 256)
theorem lows_length : ∀ k n, (lows k n).length = k
  | 0, _ => rfl
  | k + 1, n => by simp [lows, lows_length k]
theorem le_lt : ∀ l : By, le l < 256 ^ l.length
  | [] => by simp [le]
  | c :: l => by
    have := le_lt l
    have hc := c.toNat_lt
    rw [le, List.length_cons, Nat.pow_succ]
    omega

/- A reader of bytes: none: something is wrong. -/
def tk (k : Nat) (s : By) : Option (By × By) := if k ≤ s.length then some (s.take k, s.drop k) else none
def nu (k : Nat) (s : By) : Option (Nat × By) := match tk k s with
  | none => none
  | some (a, r) => some (le a, r)
def tg (s : By) : Option (Nat × By) := match nu 2 s with
  | none => none
  | some (u, r) => match nu 2 r with
    | none => none
    | some (l, r) => some (65536 * u + l, r)
def ze (k : Nat) (s : By) : Option By := match nu k s with
  | none => none
  | some (n, r) => if n = 0 then some r else none
def trimB (p : UInt8) (v : By) : By := (v.reverse.dropWhile (· == p)).reverse
def va (k : By) (s : By) : Option (By × By) := match nu 2 s with
  | none => none
  | some (n, r) => if n % 2 = 0 then match tk n r with
      | none => none
      | some (v, r) => some (trimB (padB k) v, r)
    else none
/-- Things up to the end. -/
def toEnd {α : Type} (f : Nat → By → Option (α × By)) : Nat → By → Option (List α)
  | 0, s => if s = [] then some [] else none
  | k + 1, s => if s = [] then some [] else match tg s with
    | none => none
    | some (t, r) => match f t r with
      | none => none
      | some (x, r) => match toEnd f k r with
        | none => none
        | some l => some (x :: l)
/-- Things up to a mark. -/
def toMark {α : Type} (m : Nat) (f : Nat → By → Option (α × By)) : Nat → By → Option (List α × By)
  | 0, _ => none
  | k + 1, s => match tg s with
    | none => none
    | some (t, r) => if t = m then match ze 4 r with
        | none => none
        | some r => some ([], r)
      else match f t r with
      | none => none
      | some (x, r) => match toMark m f k r with
        | none => none
        | some (l, r) => some (x :: l, r)
/-- Things behind their length, or up to a mark. -/
def lg {α : Type} (m : Nat) (f : Nat → By → Option (α × By)) (s : By) : Option (List α × By) := match nu 4 s with
  | none => none
  | some (n, r) => if n = 4294967295 then toMark m f r.length r else match tk n r with
    | none => none
    | some (a, r) => match toEnd f a.length a with
      | none => none
      | some l => some (l, r)
def itP {α : Type} (f : Nat → By → Option (α × By)) (t : Nat) (s : By) : Option (List α × By) := if t = 4294893568 then lg 4294893581 f s else none
def elP : Nat → (n : Nat) → Nat → By → Option (El n × By)
  | 0, _, _, _ => none
  | m + 1, n, t, s => if t / 65536 = 65534 then none else match tk 2 s with
    | none => none
    | some (k, r) => if k = SQ then match ze 2 r with
        | none => none
        | some r => match lg 4294893789 (itP (elP m (n - 1))) r with
          | none => none
          | some (its, r) => some (mkE n t k [] its, r)
      else match va k r with
      | none => none
      | some (v, r) => some (mkE n t k v [], r)
def parse (n : Nat) (s : By) : Option (List (El n)) := toEnd (elP (s.length + 1) n) s.length s

/- What is wrong. -/
def errI {α : Type} (f : List α → Int) : List (List α) → Int
  | [] => 0
  | s :: r => if f s = 0 then errI f r else f s
def errL {α : Type} (e : Int → α → Int) (t : α → Int) : Int → List α → Int
  | _, [] => 0
  | b, x :: l => if e b x = 0 then errL e t (t x) l else e b x
def errE {n : Nat} (g : Its n → Int) (d : Nat) (b : Int) (x : El (n + 1)) : Int :=
  if isK x.2.1 = false then 2
  else if x.1 < 0 ∨ 4294967295 < x.1 ∨ x.1 / 65536 = 65534 ∨ x.1 ≤ b then 3
  else if 64 < x.2.2.1.length ∨ x.2.2.1.getLast? = some (padB x.2.1) then 4
  else if (x.2.1 = SQ ∧ x.2.2.1 ≠ []) ∨ (x.2.1 ≠ SQ ∧ x.2.2.2 ≠ []) then 1
  else if 8 < x.2.2.2.length then 4
  else if x.2.1 = SQ ∧ 2 ≤ d then 5
  else g x.2.2.2
def errS : (n : Nat) → Nat → List (El n) → Int
  | 0, _, l => if 24 < l.length then 4 else 0
  | n + 1, d, l => if 24 < l.length then 4 else errL (errE (errI (errS n (d + 1))) d) (fun x => x.1) (-1) l

/- The bytes. -/
def sizeB (o : Bool) (s : By) : By := if o then [255, 255, 255, 255] else lows 4 s.length
def wrV (p : Nat) (k v : By) : By := (if v.length % 2 = 1 then v ++ [padB k] else v) ++ List.replicate (2 * p) (padB k)
def wrI {α : Type} (f : List α → By) (o : Bool) (s : List α) : By := [254, 255, 0, 224] ++ sizeB o (f s) ++ f s ++ (if o then [254, 255, 13, 224, 0, 0, 0, 0] else [])
def wrT (t : Int) : By := lows 2 (t / 65536).toNat ++ lows 2 (t % 65536).toNat
def wrQ (o : Bool) (a : By) : By := [0, 0] ++ sizeB o a ++ a ++ (if o then [254, 255, 221, 224, 0, 0, 0, 0] else [])
def wrE {n : Nat} (f : List (El n) → By) (o : Bool) (p : Nat) (x : El (n + 1)) : By :=
  wrT x.1 ++ x.2.1 ++ (if x.2.1 = SQ then wrQ o (x.2.2.2.map (wrI f o)).flatten else lows 2 (wrV p x.2.1 x.2.2.1).length ++ wrV p x.2.1 x.2.2.1)
def wrS (o : Bool) (p : Nat) : (n : Nat) → List (El n) → By
  | 0, _ => []
  | n + 1, l => (l.map (wrE (wrS o p n) o p)).flatten
end Go.Proofs.YtaokifbpakbgdaaGreatDoor

/- An archive as a list of data sets, the one that was laid in last at its end: the kinds of the tags, names, what is wrong with a description, what is laid in, taken out and counted (no program). -/
namespace Go.Proofs.YtaokifbpakbgdaaGreatDoor

abbrev LO : By := [76, 79]
def findE {n : Nat} (l : List (El (n + 1))) (t : Int) : Option (El (n + 1)) := l.find? (fun x => decide (x.1 = t))
def textE {n : Nat} (l : List (El (n + 1))) (t : Int) : By := match findE l t with
  | some x => x.2.2.1
  | none => []
/-- The kind of a tag of the table; empty: it is none. -/
def kindT (t : Int) : By :=
  if t = 524312 ∨ t = 2097165 ∨ t = 2097166 then [85, 73]
  else if t = 524320 ∨ t = 1048624 then [68, 65]
  else if t = 524336 then [84, 77]
  else if t = 524368 ∨ t = 1048608 then [76, 79]
  else if t = 524370 ∨ t = 524384 then [67, 83]
  else if t = 1048592 then [80, 78]
  else if t = 2097169 ∨ t = 2097171 ∨ t = 2101760 ∨ t = 2101766 ∨ t = 2101769 then [73, 83]
  else if t = 533016 then [83, 81]
  else []
def isWord (t : Int) : Bool := t == 524544 || t == 524548
def isKept (t : Int) : Bool := if t = 524370 ∨ t = 2101760 ∨ t = 2101766 ∨ t = 2101769 then false else decide (kindT t ≠ [])
/-- Word and Meaning in items: is something wrong with the kinds, and with the values? -/
def badY {n : Nat} (v : Bool) (y : El (n + 1)) : Bool := isWord y.1 && (decide (y.2.1 ≠ LO) || (v && decide (chk LO y.2.2.1 ≠ 0)))
def badI {n : Nat} (v : Bool) (its : Its (n + 1)) : Bool := its.any (fun s => s.any (badY v))
def bad1 {n : Nat} (x : El (n + 2)) : Bool := decide (kindT x.1 ≠ []) && (decide (x.2.1 ≠ kindT x.1) || badI false x.2.2.2)
def bad2 {n : Nat} (x : El (n + 2)) : Bool := decide (kindT x.1 ≠ []) && (if kindT x.1 = SQ then badI true x.2.2.2 else decide (chk (kindT x.1) x.2.2.1 ≠ 0))
/-- The tags of the names; the name of a level. -/
def nameT (i : Nat) : Int := if i = 0 then 1048608 else if i = 1 then 2097165 else if i = 2 then 2097166 else 524312
def nm {n : Nat} (i : Nat) (l : List (El (n + 1))) : By := textE l (nameT i)
/-- What is wrong with a description. -/
def desE {n : Nat} (l : List (El (n + 2))) : Int := if l.any bad1 then 2 else if l.any bad2 then 6 else if nm 0 l = [] ∨ nm 1 l = [] ∨ nm 2 l = [] ∨ nm 3 l = [] then 7 else 0
/-- The descriptions without that of a picture. -/
def outA {n : Nat} (A : List (List (El (n + 1)))) (s : By) : List (List (El (n + 1))) := A.filter (fun o => decide (nm 3 o ≠ s))
def clash {n : Nat} (l o : List (El (n + 1))) : Bool := (decide (nm 2 o = nm 2 l) && decide (nm 1 o ≠ nm 1 l)) || (decide (nm 1 o = nm 1 l) && decide (nm 0 o ≠ nm 0 l))
/-- What laying in answers, and what lies there behind it. -/
def layE {n : Nat} (A : List (List (El (n + 2)))) (l : List (El (n + 2))) : Int := if desE l ≠ 0 then desE l else if (outA A (nm 3 l)).any (clash l) then 8 else if 48 ≤ (outA A (nm 3 l)).length then 9 else 0
def layA {n : Nat} (A : List (List (El (n + 2)))) (l : List (El (n + 2))) : List (List (El (n + 2))) := if layE A l = 0 then outA A (nm 3 l) ++ [l] else A
/-- The names of a level, each once. -/
def seenA {n : Nat} (i : Nat) : List (List (El (n + 1))) → List By → List By
  | [], s => s
  | o :: A, s => seenA i A (if s.contains (nm i o) then s else s ++ [nm i o])
def cntA {n : Nat} (A : List (List (El (n + 1)))) (i : Nat) : Nat := (seenA i A []).length
theorem seenA_nodup {n : Nat} (i : Nat) : ∀ (A : List (List (El (n + 1)))) (s : List By), s.Nodup → (seenA i A s).Nodup
  | [], s, h => h
  | o :: A, s, h => by
    rw [seenA]
    refine seenA_nodup i A _ ?_
    by_cases hc : s.contains (nm i o) = true
    · rw [if_pos hc]; exact h
    · rw [if_neg hc]
      refine List.nodup_append.2 ⟨h, List.nodup_cons.2 ⟨by simp, List.nodup_nil⟩, fun a ha b hb e => ?_⟩
      simp only [List.mem_singleton] at hb
      subst hb
      subst e
      exact hc (by simpa using ha)
theorem seenA_mem {n : Nat} (i : Nat) (x : By) : ∀ (A : List (List (El (n + 1)))) (s : List By), x ∈ seenA i A s ↔ x ∈ s ∨ ∃ o ∈ A, nm i o = x
  | [], s => by simp [seenA]
  | o :: A, s => by
    rw [seenA, seenA_mem i x A]
    by_cases hc : s.contains (nm i o) = true
    · rw [if_pos hc]
      constructor
      · rintro (h | ⟨p, hp, e⟩)
        · exact Or.inl h
        · exact Or.inr ⟨p, List.mem_cons_of_mem _ hp, e⟩
      · rintro (h | ⟨p, hp, e⟩)
        · exact Or.inl h
        · rcases List.mem_cons.1 hp with rfl | hp
          · exact Or.inl (by rw [← e]; simpa using hc)
          · exact Or.inr ⟨p, hp, e⟩
    · rw [if_neg hc]
      constructor
      · rintro (h | ⟨p, hp, e⟩)
        · rcases List.mem_append.1 h with h | h
          · exact Or.inl h
          · exact Or.inr ⟨o, List.mem_cons_self, (List.mem_singleton.1 h).symm⟩
        · exact Or.inr ⟨p, List.mem_cons_of_mem _ hp, e⟩
      · rintro (h | ⟨p, hp, e⟩)
        · exact Or.inl (List.mem_append_left _ h)
        · rcases List.mem_cons.1 hp with rfl | hp
          · exact Or.inl (List.mem_append_right _ (List.mem_singleton.2 e.symm))
          · exact Or.inr ⟨p, hp, e⟩
end Go.Proofs.YtaokifbpakbgdaaGreatDoor

/- Data sets in memory: which slice reads as which tree; worlds that only grow, one block left aside (no program). -/
namespace Go.Proofs.YtaokifbpakbgdaaGreatDoor
open Go.RowKit

def bs (l : By) : ByteArray := ⟨⟨l⟩⟩
theorem bs_list (l : By) : (bs l).data.toList = l := rfl
theorem bs_size (l : By) : (bs l).size = l.length := rfl
theorem bs_toList (l : By) : (bs l).toList = l := ByteArray.toList_eq (bs l)
theorem add_block (a : Addr) (n : Nat) : (a.add n).block = a.block := by unfold Addr.add; split <;> rfl
/-- A slice of things that lie 'size' cells apart, in blocks of F. -/
def Sl {α : Type} (F : Nat → Prop) (size : Nat) (R : Addr → α → Prop) (v : Value) (l : List α) : Prop :=
  ∃ ad cap, v = .slice ad l.length cap ∧ ∀ i x, l[i]? = some x → ∃ a, ad = some a ∧ F a.block ∧ R (a.add (size * i)) x
/-- The slice v reads as the elements l. -/
def Rd (w : World) (F : Nat → Prop) : (n : Nat) → Value → List (El n) → Prop
  | 0 => Sl F 4 (fun _ _ => True)
  | n + 1 => Sl F 4 (fun a (x : El (n + 1)) => w.cell? a = some (.int .i64 x.1) ∧ w.cell? (a.add 1) = some (.string (bs x.2.1)) ∧ w.cell? (a.add 2) = some (.string (bs x.2.2.1)) ∧
      ∃ iv, w.cell? (a.add 3) = some iv ∧ Sl F 1 (fun b s => ∃ sv, w.cell? b = some sv ∧ Rd w F n sv s) iv x.2.2.2)
/-- The slice v reads as the items l. -/
def RdI (w : World) (F : Nat → Prop) (n : Nat) : Value → Its n → Prop := Sl F 1 (fun b s => ∃ sv, w.cell? b = some sv ∧ Rd w F n sv s)
theorem Rd_succ (w : World) (F : Nat → Prop) (n : Nat) (v : Value) (l : List (El (n + 1))) : Rd w F (n + 1) v l = Sl F 4 (fun a (x : El (n + 1)) => w.cell? a = some (.int .i64 x.1) ∧ w.cell? (a.add 1) = some (.string (bs x.2.1)) ∧
    w.cell? (a.add 2) = some (.string (bs x.2.2.1)) ∧ ∃ iv, w.cell? (a.add 3) = some iv ∧ RdI w F n iv x.2.2.2) v l := rfl
theorem Sl.mono {α : Type} {F F' : Nat → Prop} {size : Nat} {R R' : Addr → α → Prop} {v : Value} {l : List α} (h : Sl F size R v l) (hlo : ∀ j, F j → F' j) (hR : ∀ a x, F a.block → x ∈ l → R a x → R' a x) : Sl F' size R' v l := by
  obtain ⟨ad, cap, hv, hc⟩ := h
  refine ⟨ad, cap, hv, fun i x hx => ?_⟩
  obtain ⟨a, ha, hb, hr⟩ := hc i x hx
  exact ⟨a, ha, hlo _ hb, hR _ x (by rwa [add_block]) (List.mem_of_getElem? hx) hr⟩
theorem cell_keep {w w' : World} {p : Addr} {v : Value} (h : w'.heap[p.block]? = w.heap[p.block]?) (hc : w.cell? p = some v) : w'.cell? p = some v := by rw [World.cell?_of_block h]; exact hc
theorem Rd.keep {w w' : World} {F F' : Nat → Prop} (hlo : ∀ j, F j → F' j) (h : ∀ j, F j → j < w.heap.size → w'.heap[j]? = w.heap[j]?) : ∀ (n : Nat) (v : Value) (l : List (El n)), Rd w F n v l → Rd w' F' n v l
  | 0, _, _, hr => hr.mono hlo (fun _ _ _ _ _ => trivial)
  | n + 1, _, _, hr => by
    have hcell : ∀ (p : Addr) (v : Value), F p.block → w.cell? p = some v → w'.cell? p = some v := fun p v hp hc => cell_keep (h _ hp (World.block_lt_of_cell? _ _ hc)) hc
    refine Sl.mono hr hlo (fun a x ha _ => ?_)
    rintro ⟨h1, h2, h3, iv, h4, h5⟩
    refine ⟨hcell _ _ ha h1, hcell _ _ (by rwa [add_block]) h2, hcell _ _ (by rwa [add_block]) h3, iv, hcell _ _ (by rwa [add_block]) h4, h5.mono hlo (fun b s hb _ => ?_)⟩
    rintro ⟨sv, h6, h7⟩
    exact ⟨sv, hcell _ _ hb h6, Rd.keep hlo h n sv s h7⟩
theorem RdI.keep {w w' : World} {F F' : Nat → Prop} (hlo : ∀ j, F j → F' j) (h : ∀ j, F j → j < w.heap.size → w'.heap[j]? = w.heap[j]?) (n : Nat) (v : Value) (l : Its n) (hr : RdI w F n v l) : RdI w' F' n v l := by
  refine Sl.mono hr hlo (fun b s hb _ => ?_)
  rintro ⟨sv, h6, h7⟩
  exact ⟨sv, cell_keep (h _ hb (World.block_lt_of_cell? _ _ h6)) h6, Rd.keep hlo h n sv s h7⟩
theorem Rd.slice {w : World} {F : Nat → Prop} {n : Nat} {v : Value} {l : List (El n)} (h : Rd w F n v l) : ∃ ad cap, v = .slice ad l.length cap := by
  cases n with
  | zero => obtain ⟨ad, cap, h, _⟩ := h; exact ⟨ad, cap, h⟩
  | succ n => obtain ⟨ad, cap, h, _⟩ := h; exact ⟨ad, cap, h⟩
theorem RdI.slice {w : World} {F : Nat → Prop} {n : Nat} {v : Value} {l : Its n} (h : RdI w F n v l) : ∃ ad cap, v = .slice ad l.length cap := by
  obtain ⟨ad, cap, h, _⟩ := h; exact ⟨ad, cap, h⟩
theorem Rd.nil (w : World) (F : Nat → Prop) (n : Nat) : Rd w F n (.slice none 0 0) [] := by
  cases n with
  | zero => exact ⟨none, 0, rfl, fun i x hx => by simp at hx⟩
  | succ n => exact ⟨none, 0, rfl, fun i x hx => by simp at hx⟩
theorem RdI.nil (w : World) (F : Nat → Prop) (n : Nat) : RdI w F n (.slice none 0 0) [] := ⟨none, 0, rfl, fun i x hx => by simp at hx⟩
/-- The cells of the element of that place. -/
theorem Rd.at {w : World} {F : Nat → Prop} {n : Nat} {ad : Option Addr} {len cap : Nat} {l : List (El (n + 1))} (h : Rd w F (n + 1) (.slice ad len cap) l) {i : Nat} {x : El (n + 1)} (hx : l[i]? = some x) :
    ∃ a ad2 cap2, ad = some a ∧ F a.block ∧ w.cell? (a.add (i * 4)) = some (.int .i64 x.1) ∧ w.cell? ⟨(a.add (i * 4)).block, (a.add (i * 4)).off + 1, none⟩ = some (.string (bs x.2.1)) ∧ w.cell? ⟨(a.add (i * 4)).block, (a.add (i * 4)).off + 2, none⟩ = some (.string (bs x.2.2.1)) ∧
      w.cell? ⟨(a.add (i * 4)).block, (a.add (i * 4)).off + 3, none⟩ = some (.slice ad2 x.2.2.2.length cap2) ∧ RdI w F n (.slice ad2 x.2.2.2.length cap2) x.2.2.2 := by
  obtain ⟨ad', cap', e, hc⟩ := h
  obtain ⟨a, rfl, hF, h0, h1, h2, iv, h3, h4⟩ := hc i x hx
  obtain ⟨ad2, cap2, rfl⟩ := RdI.slice (n := n) h4
  simp only [Value.slice.injEq] at e
  rw [Nat.mul_comm] at h0 h1 h2 h3
  exact ⟨a, ad2, cap2, e.1, hF, h0, h1, h2, h3, h4⟩
theorem Rd.up {w w' : World} {F : Nat → Prop} {n : Nat} {v : Value} {l : List (El n)} (h : Rd w F n v l) (k : Below w.heap.size w w') : Rd w' F n v l := h.keep (fun _ h => h) (fun j _ hj => k.block j hj)
theorem RdI.up {w w' : World} {F : Nat → Prop} {n : Nat} {v : Value} {l : Its n} (h : RdI w F n v l) (k : Below w.heap.size w w') : RdI w' F n v l := h.keep (fun _ h => h) (fun j _ hj => k.block j hj)

/-- Nothing that was there has turned, one block left aside. -/
def UpB (b : Nat) (w w' : World) : Prop := (w'.os = w.os ∧ w'.tape = w.tape ∧ w'.output = w.output) ∧ w.heap.size ≤ w'.heap.size ∧ ∀ j, j < w.heap.size → j ≠ b → w'.heap[j]? = w.heap[j]?
theorem UpB.size {b : Nat} {w w' : World} (h : UpB b w w') : w.heap.size ≤ w'.heap.size := h.2.1
theorem UpB.block {b : Nat} {w w' : World} (h : UpB b w w') {j : Nat} (hj : j < w.heap.size) (hb : j ≠ b) : w'.heap[j]? = w.heap[j]? := h.2.2 j hj hb
theorem UpB.refl (b : Nat) (w : World) : UpB b w w := ⟨⟨rfl, rfl, rfl⟩, Nat.le_refl _, fun _ _ _ => rfl⟩
theorem UpB.trans {b : Nat} {a c d : World} (h : UpB b a c) (k : UpB b c d) : UpB b a d :=
  ⟨⟨k.1.1.trans h.1.1, k.1.2.1.trans h.1.2.1, k.1.2.2.trans h.1.2.2⟩, Nat.le_trans h.size k.size, fun _ hj hb => (k.block (Nat.lt_of_lt_of_le hj h.size) hb).trans (h.block hj hb)⟩
theorem UpB.below {b : Nat} {w w' : World} (h : UpB b w w') {B : Nat} (hB : B ≤ b) (hw : B ≤ w.heap.size) : Below B w w' := ⟨h.1.1, h.1.2.1, h.1.2.2, h.size, fun j hj => h.block (by omega) (by omega)⟩
theorem UpB.of_below {b : Nat} {w w' : World} (h : Below w.heap.size w w') : UpB b w w' := ⟨⟨h.os, h.tape, h.output⟩, h.size, fun j hj _ => h.block j hj⟩
theorem UpB.drew {b : Nat} {w w' : World} (h : UpB b w w') : UpB b w w'.drew := ⟨h.1, h.2⟩
theorem UpB.alloc {b : Nat} {w w' : World} (h : UpB b w w') (o : Obj) : UpB b w (w'.alloc o) := h.trans (UpB.of_below (Below.alloc (Below.refl _ _) (Nat.le_refl _) o))
theorem UpB.setCell {b : Nat} {w w' : World} (h : UpB b w w') {p : Addr} (hp : p.block = b ∨ w.heap.size ≤ p.block) (u : Value) : UpB b w (w'.setCell p u) :=
  ⟨⟨h.1.1, h.1.2.1, h.1.2.2⟩, by have := h.size; simpa using this, fun j hj hb => by rw [Below.heap_setCell w' p u j (by rcases hp with hp | hp <;> omega)]; exact h.block hj hb⟩
theorem UpB.grown {b : Nat} {w a a' : World} {row : Option Nat} (h : UpB b w a) (hg : a.grownBy a' row) (hr : ∀ k, row = some k → k = b ∨ w.heap.size ≤ k) : UpB b w a' :=
  ⟨⟨hg.os.trans h.1.1, hg.tape.trans h.1.2.1, hg.output.trans h.1.2.2⟩, Nat.le_trans h.size hg.size, fun j hj hb => by
    rw [hg.block j (Nat.lt_of_lt_of_le hj h.size) (fun e => by rcases hr j e.symm with e | e <;> omega)]
    exact h.block hj hb⟩

/- LISTS THAT WERE BUILT: each row of cells is a block of its own. -/
/-- Cells, k of each thing, and the blocks that lie beneath. -/
def Ls {α : Type} (k : Nat) (R : List Value → α → List Nat → Prop) : List Value → List α → List Nat → Prop
  | xs, [], bs => xs = [] ∧ bs = []
  | xs, x :: l, bs => ∃ c ys b cs, xs = c ++ ys ∧ c.length = k ∧ R c x b ∧ Ls k R ys l cs ∧ bs = b ++ cs
theorem Ls.mono {α : Type} {k : Nat} {R R' : List Value → α → List Nat → Prop} : ∀ {l : List α} {xs : List Value} {bs : List Nat}, Ls k R xs l bs → (∀ c x b, (∀ j ∈ b, j ∈ bs) → x ∈ l → R c x b → R' c x b) → Ls k R' xs l bs
  | [], _, _, h, _ => h
  | x :: l, xs, bs, h, hR => by
    obtain ⟨c, ys, b, cs, e1, e2, h1, h2, e3⟩ := h
    refine ⟨c, ys, b, cs, e1, e2, hR c x b (fun j hj => by rw [e3]; exact List.mem_append_left _ hj) List.mem_cons_self h1, h2.mono (fun c y b hb hy => hR c y b (fun j hj => by rw [e3]; exact List.mem_append_right _ (hb j hj)) (List.mem_cons_of_mem _ hy)), e3⟩
theorem Ls.snoc {α : Type} {k : Nat} {R : List Value → α → List Nat → Prop} {c : List Value} {x : α} {b : List Nat} (hc : c.length = k) (hx : R c x b) : ∀ {l : List α} {xs : List Value} {bs : List Nat}, Ls k R xs l bs → Ls k R (xs ++ c) (l ++ [x]) (bs ++ b)
  | [], xs, bs, h => by
    obtain ⟨rfl, rfl⟩ := h
    exact ⟨c, [], b, [], by simp, hc, hx, ⟨rfl, rfl⟩, by simp⟩
  | y :: l, xs, bs, h => by
    obtain ⟨d, ys, b', cs, rfl, e2, h1, h2, rfl⟩ := h
    exact ⟨d, ys ++ c, b', cs ++ b, by simp, e2, h1, Ls.snoc hc hx h2, by simp⟩
theorem Ls.length {α : Type} {k : Nat} {R : List Value → α → List Nat → Prop} : ∀ {l : List α} {xs : List Value} {bs : List Nat}, Ls k R xs l bs → xs.length = l.length * k
  | [], xs, bs, h => by obtain ⟨rfl, rfl⟩ := h; simp
  | y :: l, xs, bs, h => by
    obtain ⟨d, ys, b', cs, rfl, e2, h1, h2, rfl⟩ := h
    rw [List.length_append, h2.length, e2, List.length_cons, Nat.succ_mul, Nat.add_comm]
theorem Ls.at {α : Type} {k : Nat} {R : List Value → α → List Nat → Prop} : ∀ {l : List α} {xs : List Value} {bs : List Nat}, Ls k R xs l bs → ∀ (i : Nat) (x : α), l[i]? = some x → ∃ c b, R c x b ∧ c.length = k ∧ (∀ j ∈ b, j ∈ bs) ∧ ∀ t u, c[t]? = some u → xs[k * i + t]? = some u
  | [], _, _, _, i, x, hx => by simp at hx
  | y :: l, xs, bs, h, i, x, hx => by
    obtain ⟨d, ys, b', cs, rfl, e2, h1, h2, rfl⟩ := h
    cases i with
    | zero =>
      simp only [List.getElem?_cons_zero, Option.some.injEq] at hx
      subst hx
      refine ⟨d, b', h1, e2, fun j hj => List.mem_append_left _ hj, fun t u hu => ?_⟩
      have := (List.getElem?_eq_some_iff.1 hu).1
      rw [Nat.mul_zero, Nat.zero_add, List.getElem?_append_left this, hu]
    | succ i =>
      simp only [List.getElem?_cons_succ] at hx
      obtain ⟨c, b, g1, g2, g3, g4⟩ := h2.at i x hx
      refine ⟨c, b, g1, g2, fun j hj => List.mem_append_right _ (g3 j hj), fun t u hu => ?_⟩
      rw [List.getElem?_append_right (by rw [e2, Nat.mul_succ]; omega), e2, show k * (i + 1) + t - k = k * i + t by rw [Nat.mul_succ]; omega]
      exact g4 t u hu
/-- The slice v is a row of its own, and its cells tell the things l. -/
def Row {α : Type} (w : World) (T : TypeId) (k : Nat) (R : List Value → α → List Nat → Prop) (v : Value) (l : List α) (bs : List Nat) : Prop :=
  ∃ xs cs, w.ownsRow 0 T k v l.length xs ∧ Ls k R xs l cs ∧ bs = v.ownBlock.toList ++ cs
/-- The slice v was built, and reads as the elements l; bs: its blocks. -/
def Ow (w : World) : (n : Nat) → Value → List (El n) → List Nat → Prop
  | 0 => Row w 73 4 (fun _ _ b => b = [])
  | n + 1 => Row w 73 4 (fun c (x : El (n + 1)) b => ∃ iv, c = [.int .i64 x.1, .string (bs x.2.1), .string (bs x.2.2.1), iv] ∧ Row w 182 1 (fun c s b => ∃ sv, c = [sv] ∧ Ow w n sv s b) iv x.2.2.2 b)
def OwI (w : World) (n : Nat) : Value → Its n → List Nat → Prop := Row w 182 1 (fun c s b => ∃ sv, c = [sv] ∧ Ow w n sv s b)
/-- The four cells of an element. -/
def CE (w : World) : (n : Nat) → List Value → El n → List Nat → Prop
  | 0, _, _, b => b = []
  | n + 1, c, x, b => ∃ iv, c = [.int .i64 x.1, .string (bs x.2.1), .string (bs x.2.2.1), iv] ∧ OwI w n iv x.2.2.2 b
theorem Ow_eq (w : World) (n : Nat) (v : Value) (l : List (El n)) (b : List Nat) : Ow w n v l b = Row w 73 4 (CE w n) v l b := by
  cases n <;> rfl
theorem ownsRow_keep {w w' : World} {base : Nat} {e : TypeId} {size : Nat} {v : Value} {n : Nat} {xs : List Value} (h : w.ownsRow base e size v n xs) (k : ∀ j ∈ v.ownBlock.toList, w'.heap[j]? = w.heap[j]?) : w'.ownsRow base e size v n xs := by
  obtain ⟨h1, h2⟩ := h
  refine ⟨h1, ?_⟩
  rcases h2 with h2 | ⟨g, cap, cur, rfl, hg, hh, r⟩
  · exact Or.inl h2
  · exact Or.inr ⟨g, cap, cur, rfl, hg, by rw [k g (by simp [Value.ownBlock])]; exact hh, r⟩
theorem ownsRow_lt {w : World} {base : Nat} {e : TypeId} {size : Nat} {v : Value} {n : Nat} {xs : List Value} (h : w.ownsRow base e size v n xs) : ∀ j ∈ v.ownBlock.toList, j < w.heap.size := by
  intro j hj
  rcases h.2 with ⟨rfl, _⟩ | ⟨g, cap, cur, rfl, hg, hh, r⟩
  · cases hj
  · simp [Value.ownBlock] at hj
    subst hj
    exact lt_of_block hh
theorem Row.keep {α : Type} {w w' : World} {T : TypeId} {k : Nat} {R R' : List Value → α → List Nat → Prop} {v : Value} {l : List α} {bs : List Nat} (h : Row w T k R v l bs) (hk : ∀ j ∈ bs, w'.heap[j]? = w.heap[j]?)
    (hR : ∀ c x b, (∀ j ∈ b, j ∈ bs) → x ∈ l → R c x b → R' c x b) : Row w' T k R' v l bs := by
  obtain ⟨xs, cs, h1, h2, rfl⟩ := h
  exact ⟨xs, cs, ownsRow_keep h1 (fun j hj => hk j (List.mem_append_left _ hj)), h2.mono (fun c x b hb hx => hR c x b (fun j hj => List.mem_append_right _ (hb j hj)) hx), rfl⟩
theorem Ow.keep {w w' : World} : ∀ (n : Nat) (v : Value) (l : List (El n)) (bs : List Nat), Ow w n v l bs → (∀ j ∈ bs, w'.heap[j]? = w.heap[j]?) → Ow w' n v l bs
  | 0, v, l, bs, h, hk => Row.keep h hk (fun _ _ _ _ _ h => h)
  | n + 1, v, l, bs, h, hk => Row.keep h hk (fun c x b hb _ => by
      rintro ⟨iv, e, h1⟩
      exact ⟨iv, e, Row.keep h1 (fun j hj => hk j (hb j hj)) (fun c s b' hb' _ => by
        rintro ⟨sv, e, h2⟩
        exact ⟨sv, e, Ow.keep n sv s b' h2 (fun j hj => hk j (hb j (hb' j hj)))⟩)⟩)
theorem OwI.keep {w w' : World} {n : Nat} {v : Value} {l : Its n} {bs : List Nat} (h : OwI w n v l bs) (hk : ∀ j ∈ bs, w'.heap[j]? = w.heap[j]?) : OwI w' n v l bs :=
  Row.keep h hk (fun c s b' hb' _ => by
    rintro ⟨sv, e, h2⟩
    exact ⟨sv, e, Ow.keep n sv s b' h2 (fun j hj => hk j (hb' j hj))⟩)
theorem CE.keep {w w' : World} {n : Nat} {c : List Value} {x : El n} {b : List Nat} (h : CE w n c x b) (hk : ∀ j ∈ b, w'.heap[j]? = w.heap[j]?) : CE w' n c x b := by
  cases n with
  | zero => exact h
  | succ n =>
    obtain ⟨iv, e, h1⟩ := h
    exact ⟨iv, e, h1.keep hk⟩
theorem Ow.nil (w : World) (n : Nat) : Ow w n (.slice none 0 0) [] [] := by
  rw [Ow_eq]
  exact ⟨[], [], World.ownsRow_nil _ _ _ _, ⟨rfl, rfl⟩, rfl⟩
theorem OwI.nil (w : World) (n : Nat) : OwI w n (.slice none 0 0) [] [] := ⟨[], [], World.ownsRow_nil _ _ _ _, ⟨rfl, rfl⟩, rfl⟩
theorem CE.mk {w : World} {n : Nat} {t : Int} {k v : By} {its : Its (n - 1)} {iv : Value} {b : List Nat} (h : OwI w (n - 1) iv its b) : ∃ b', (∀ j ∈ b', j ∈ b) ∧ (b.Nodup → b'.Nodup) ∧ CE w n [.int .i64 t, .string (bs k), .string (bs v), iv] (mkE n t k v its) b' := by
  cases n with
  | zero => exact ⟨[], (fun _ hj => nomatch hj), (fun _ => List.nodup_nil), rfl⟩
  | succ n => exact ⟨b, fun _ h => h, fun h => h, iv, rfl, h⟩
/-- What a built row reads as. -/
theorem Row.read {α : Type} {w : World} {T : TypeId} {k : Nat} {R : List Value → α → List Nat → Prop} {v : Value} {l : List α} {bs : List Nat} (h : Row w T k R v l bs) (F : Nat → Prop) (hF : ∀ j ∈ bs, F j) (S : Addr → α → Prop)
    (hS : ∀ (a : Addr) c x b, F a.block → a.spot = none → R c x b → c.length = k → (∀ j ∈ b, j ∈ bs) → (∀ t u, c[t]? = some u → w.cell? (a.add t) = some u) → S a x) : Sl F k S v l := by
  obtain ⟨xs, cs, hown, hls, rfl⟩ := h
  obtain ⟨hl, hv⟩ := id hown
  rcases hv with ⟨rfl, hn⟩ | ⟨g, cap, cur, rfl, _⟩
  · have : l = [] := List.eq_nil_of_length_eq_zero hn
    subst this
    exact ⟨none, 0, rfl, fun i x hx => by simp at hx⟩
  · refine ⟨_, cap, rfl, fun i x hx => ⟨_, rfl, hF g (by simp [Value.ownBlock]), ?_⟩⟩
    have hi := (List.getElem?_eq_some_iff.1 hx).1
    obtain ⟨c, b, h1, h2, h3, h4⟩ := hls.at i x hx
    have ea : ((⟨g, 0, none⟩ : Addr).add (k * i)) = ⟨g, k * i, none⟩ := by rw [Addr.add_lit, Nat.zero_add]
    rw [ea]
    refine hS _ c x b (hF g (by simp [Value.ownBlock])) rfl h1 h2 (fun j hj => List.mem_append_right _ (h3 j hj)) (fun t u hu => ?_)
    have ht := (List.getElem?_eq_some_iff.1 hu).1
    have hb : k * i + k ≤ l.length * k := by
      have := Nat.mul_le_mul_right k (show i + 1 ≤ l.length by omega)
      rw [Nat.succ_mul, Nat.mul_comm i k] at this
      exact this
    rw [Addr.add_lit, hown.cellAt _ (by omega)]
    exact h4 t u hu
theorem Ow.rd {w : World} : ∀ (n : Nat) (v : Value) (l : List (El n)) (bs : List Nat) (F : Nat → Prop), Ow w n v l bs → (∀ j ∈ bs, F j) → Rd w F n v l
  | 0, v, l, bs, F, h, hF => Row.read h F hF _ (fun _ _ _ _ _ _ _ _ _ _ => trivial)
  | n + 1, v, l, bs, F, h, hF => Row.read h F hF _ (fun a c x b _ _ => by
      rintro ⟨iv, rfl, h1⟩ _ hb hc
      have c0 := hc 0 _ rfl
      rw [Addr.add_zero'] at c0
      refine ⟨c0, hc 1 _ rfl, hc 2 _ rfl, iv, hc 3 _ rfl, Row.read h1 F (fun j hj => hF j (hb j hj)) _ (fun a c s b' _ _ => ?_)⟩
      rintro ⟨sv, rfl, h2⟩ _ hb' hc'
      have d0 := hc' 0 _ rfl
      rw [Addr.add_zero'] at d0
      exact ⟨sv, d0, Ow.rd n sv s b' F h2 (fun j hj => hF j (hb j (hb' j hj)))⟩)
/-- The row stays where it was, or is a new block. -/
def Moved (w : World) (v v' : Value) : Prop := v'.ownBlock = v.ownBlock ∨ ∀ g ∈ v'.ownBlock.toList, w.heap.size ≤ g
/-- 'append' of new cells to a row of one's own: the row stays where it was, or is a new block. -/
theorem wpList_append_sep {P : Program} (w : World) {ops : Array Oper} {rest : List Oper} {o : Oper} {a : Act} {Q : Exit → Act → World → Prop}
    (hg : o.guard = none) (s x : Operand) (t : TypeId) (hop : o.op = Op.call { callee := Callee.builtin Builtin.append, args := #[s, x], argTypes := #[t, t] })
    (e : TypeId) (i : TypeInfo) (z : Value) (size bytes : Nat) (h1 : P.underlying t = some (.slice e)) (h2 : P.info? e = some i) (h3 : i.zero = some z) (h4 : i.size = size) (h5 : i.bytes = bytes) (h6 : z.cells.size = size) (h7 : 0 < size)
    (v : Value) (n : Nat) (xs : List Value) (hs : a.eval s = v) (hown : w.ownsRow 0 e size v n xs)
    (ad : Addr) (m c : Nat) (news : List Value) (hx : a.eval x = .slice (some ad) m c) (hn : news.length = m * size) (hc : ∀ j u, news[j]? = some u → w.cell? (ad.add j) = some u) (h1c : ∀ u ∈ news, u.oneCell' = true)
    (b1 : n + m ≤ maxLen) (b2 : (n + m) * bytes ≤ 140737488355328)
    (hK : ∀ v' w', w'.ownsRow 0 e size v' (n + m) (xs ++ news) → w.grownBy w' v.ownBlock → Moved w v v' → wpList P ops Q rest (a.put o.dst v') w') :
    wpList P ops Q (o :: rest) a w := by
  have weak : ∀ {w' : World} {v' : Value} {k : Nat} {ys : List Value}, w'.ownsRow w.heap.size e size v' k ys → w'.ownsRow 0 e size v' k ys ∧ ∀ g ∈ v'.ownBlock.toList, w.heap.size ≤ g := by
    rintro w' v' k ys ⟨q1, q2⟩
    rcases q2 with ⟨rfl, q2⟩ | ⟨g, cap, cur, rfl, q2, q3⟩
    · exact ⟨⟨q1, Or.inl ⟨rfl, q2⟩⟩, fun g hg => by cases hg⟩
    · exact ⟨⟨q1, Or.inr ⟨g, cap, cur, rfl, Nat.zero_le _, q3⟩⟩, fun j hj => by simp [Value.ownBlock] at hj; omega⟩
  obtain ⟨k1, k2⟩ := id hown
  rcases k2 with ⟨rfl, rfl⟩ | ⟨g, cap, cur, rfl, _⟩
  · have : xs = [] := List.eq_nil_of_length_eq_zero (by simpa using k1)
    subst this
    exact wpList_append_own w hg s x t hop w.heap.size e i z size bytes h1 h2 h3 h4 h5 h6 h7 _ 0 [] hs (World.ownsRow_nil _ _ _ _) ad m c news hx hn hc h1c b1 b2 (Nat.le_refl _) (fun v' w' q1 q2 _ => hK v' w' (weak q1).1 q2 (Or.inr (weak q1).2))
  · by_cases hf : n + m ≤ cap
    · exact wpList_append_fits w hg s x t hop 0 e i size h1 h2 h4 g n cap xs hs hown ad m c news hx hn hc h1c hf (fun w' q1 q2 => hK _ w' q1 q2 (Or.inl rfl))
    · refine wpList_append_grows w hg s x t hop e i z size bytes h1 h2 h3 h4 h5 h6 h7 _ n cap xs hs (fun h => by cases h) k1 (fun b hb j u hu => ?_) ad m c news hx hn hc h1c (by omega) b1 b2 (fun v' w' q1 q2 => hK v' w' (weak q1).1 ?_ (Or.inr (weak q1).2))
      · obtain rfl := Option.some.inj hb
        have hj := (List.getElem?_eq_some_iff.1 hu).1
        rw [Addr.add_lit, Nat.zero_add, hown.cellAt _ (by omega)]
        exact hu
      · exact ⟨q2.os, q2.tape, q2.output, q2.size, fun k hk _ => q2.block k hk (by simp)⟩
end Go.Proofs.YtaokifbpakbgdaaGreatDoor

/- The reader of bytes leaves no more than there was; how much it is allowed to go on does not show (no program). -/
namespace Go.Proofs.YtaokifbpakbgdaaGreatDoor

theorem tk_len {k : Nat} {s a r : By} (h : tk k s = some (a, r)) : a.length = k ∧ a.length + r.length = s.length := by
  unfold tk at h
  split at h
  · simp only [Option.some.injEq, Prod.mk.injEq] at h
    obtain ⟨rfl, rfl⟩ := h
    simp only [List.length_take, List.length_drop]
    omega
  · cases h
theorem nu_len {k n : Nat} {s r : By} (h : nu k s = some (n, r)) : r.length + k = s.length ∧ n < 256 ^ k := by
  unfold nu at h
  split at h
  · cases h
  · rename_i a r' e
    simp only [Option.some.injEq, Prod.mk.injEq] at h
    obtain ⟨rfl, rfl⟩ := h
    have h1 := tk_len e
    have h2 := le_lt a
    rw [h1.1] at h2
    exact ⟨by omega, h2⟩
theorem tg_len {t : Nat} {s r : By} (h : tg s = some (t, r)) : r.length + 4 = s.length ∧ t < 4294967296 := by
  unfold tg at h
  split at h
  · cases h
  · rename_i u r1 e1
    have h1 := nu_len e1
    split at h
    · cases h
    · rename_i l r2 e2
      have h2 := nu_len e2
      simp only [Option.some.injEq, Prod.mk.injEq] at h
      obtain ⟨rfl, rfl⟩ := h
      have h256 : (256 : Nat) ^ 2 = 65536 := rfl
      omega
theorem ze_len {k : Nat} {s r : By} (h : ze k s = some r) : r.length + k = s.length := by
  unfold ze at h
  split at h
  · cases h
  · rename_i n r' e
    have h1 := nu_len e
    split at h
    · cases h; exact h1.1
    · cases h
theorem va_len {k s v r : By} (h : va k s = some (v, r)) : r.length + 2 ≤ s.length := by
  unfold va at h
  split at h
  · cases h
  · rename_i n r1 e1
    have h1 := nu_len e1
    split at h
    · split at h
      · cases h
      · rename_i a r2 e2
        have h2 := tk_len e2
        cases h
        omega
    · cases h
/-- It leaves no more than there was. -/
def Eats {α : Type} (f : Nat → By → Option (α × By)) : Prop := ∀ t s x r, f t s = some (x, r) → r.length ≤ s.length
theorem toMark_len {α : Type} {m : Nat} {f : Nat → By → Option (α × By)} (hf : Eats f) : ∀ (k : Nat) (s : By) (l : List α) (r : By), toMark m f k s = some (l, r) → r.length + 4 ≤ s.length
  | 0, s, l, r, h => by cases h
  | k + 1, s, l, r, h => by
    rw [toMark] at h
    split at h
    · cases h
    · rename_i t r1 e1
      have h1 := tg_len e1
      split at h
      · split at h
        · cases h
        · rename_i r2 e2
          have h2 := ze_len e2
          cases h
          omega
      · split at h
        · cases h
        · rename_i x r2 e2
          have h2 := hf _ _ _ _ e2
          split at h
          · cases h
          · rename_i l3 r3 e3
            have h3 := toMark_len hf k _ _ _ e3
            cases h
            omega
theorem lg_len {α : Type} {m : Nat} {f : Nat → By → Option (α × By)} (hf : Eats f) {s r : By} {l : List α} (h : lg m f s = some (l, r)) : r.length + 4 ≤ s.length := by
  unfold lg at h
  split at h
  · cases h
  · rename_i n r1 e1
    have h1 := nu_len e1
    split at h
    · have := toMark_len hf _ _ _ _ h
      omega
    · split at h
      · cases h
      · rename_i a r2 e2
        have h2 := tk_len e2
        split at h
        · cases h
        · cases h
          omega
theorem itP_eats {α : Type} {f : Nat → By → Option (α × By)} (hf : Eats f) : Eats (itP f) := by
  intro t s x r h
  unfold itP at h
  split at h
  · have := lg_len hf h; omega
  · cases h
theorem elP_eats : ∀ (m n : Nat), Eats (elP m n)
  | 0, n => by intro t s x r h; cases h
  | m + 1, n => by
    intro t s x r h
    rw [elP] at h
    split at h
    · cases h
    · split at h
      · cases h
      · rename_i k r1 e1
        have h1 := tk_len e1
        split at h
        · split at h
          · cases h
          · rename_i r2 e2
            have h2 := ze_len e2
            split at h
            · cases h
            · rename_i its r3 e3
              have h3 := lg_len (itP_eats (elP_eats m (n - 1))) e3
              cases h
              omega
        · split at h
          · cases h
          · rename_i v r2 e2
            have h2 := va_len e2
            cases h
            omega
/-- How much it may go on does not show. -/
theorem toEnd_fuel {α : Type} {f : Nat → By → Option (α × By)} (hf : Eats f) : ∀ (k k' : Nat) (s : By), s.length ≤ k → s.length ≤ k' → toEnd f k s = toEnd f k' s
  | 0, k', s, h, _ => by
    have : s = [] := List.eq_nil_of_length_eq_zero (by omega)
    subst this
    cases k' <;> rfl
  | k + 1, 0, s, _, h => by
    have : s = [] := List.eq_nil_of_length_eq_zero (by omega)
    subst this
    rfl
  | k + 1, k' + 1, s, h, h' => by
    rw [toEnd, toEnd]
    split
    · rfl
    · split
      · rfl
      · rename_i t r1 e1
        have h1 := tg_len e1
        split
        · rfl
        · rename_i x r2 e2
          have h2 := hf _ _ _ _ e2
          rw [toEnd_fuel hf k k' r2 (by omega) (by omega)]
theorem toMark_fuel {α : Type} {m : Nat} {f : Nat → By → Option (α × By)} (hf : Eats f) : ∀ (k k' : Nat) (s : By), s.length ≤ k → s.length ≤ k' → toMark m f k s = toMark m f k' s
  | 0, 0, s, h, _ => rfl
  | 0, k' + 1, s, h, _ => by
    have : s = [] := List.eq_nil_of_length_eq_zero (by omega)
    subst this
    rfl
  | k + 1, 0, s, _, h => by
    have : s = [] := List.eq_nil_of_length_eq_zero (by omega)
    subst this
    rfl
  | k + 1, k' + 1, s, h, h' => by
    rw [toMark, toMark]
    split
    · rfl
    · rename_i t r1 e1
      have h1 := tg_len e1
      split
      · rfl
      · split
        · rfl
        · rename_i x r2 e2
          have h2 := hf _ _ _ _ e2
          rw [toMark_fuel hf k k' r2 (by omega) (by omega)]
/-- One thing, and what follows. -/
theorem toEnd_step {α : Type} {f : Nat → By → Option (α × By)} (hf : Eats f) {s : By} (hs : s ≠ []) : toEnd f s.length s = (match tg s with
    | none => none
    | some (t, r) => match f t r with
      | none => none
      | some (x, r2) => (toEnd f r2.length r2).map (x :: ·)) := by
  obtain ⟨k, hk⟩ : ∃ k, s.length = k + 1 := ⟨s.length - 1, by have := List.length_pos_iff.2 hs; omega⟩
  rw [hk, toEnd, if_neg hs]
  cases e1 : tg s with
  | none => rfl
  | some p =>
    obtain ⟨t, r1⟩ := p
    have h1 := tg_len e1
    simp only []
    cases e2 : f t r1 with
    | none => rfl
    | some q =>
      obtain ⟨x, r2⟩ := q
      have h2 := hf _ _ _ _ e2
      simp only []
      rw [toEnd_fuel hf k r2.length r2 (by omega) (Nat.le_refl _)]
      cases toEnd f r2.length r2 <;> rfl
theorem toMark_step {α : Type} {m : Nat} {f : Nat → By → Option (α × By)} (hf : Eats f) (s : By) : toMark m f s.length s = (match tg s with
    | none => none
    | some (t, r) => if t = m then (ze 4 r).map (fun r => ([], r)) else match f t r with
      | none => none
      | some (x, r2) => (toMark m f r2.length r2).map (fun p => (x :: p.1, p.2))) := by
  by_cases hs : s = []
  · subst hs; rfl
  obtain ⟨k, hk⟩ : ∃ k, s.length = k + 1 := ⟨s.length - 1, by have := List.length_pos_iff.2 hs; omega⟩
  rw [hk, toMark]
  cases e1 : tg s with
  | none => rfl
  | some p =>
    obtain ⟨t, r1⟩ := p
    have h1 := tg_len e1
    simp only []
    by_cases ht : t = m
    · rw [if_pos ht, if_pos ht]
      cases ze 4 r1 <;> rfl
    · rw [if_neg ht, if_neg ht]
      cases e2 : f t r1 with
      | none => rfl
      | some q =>
        obtain ⟨x, r2⟩ := q
        have h2 := hf _ _ _ _ e2
        simp only []
        rw [toMark_fuel hf k r2.length r2 (by omega) (Nat.le_refl _)]
        cases toMark m f r2.length r2 <;> rfl
end Go.Proofs.YtaokifbpakbgdaaGreatDoor
