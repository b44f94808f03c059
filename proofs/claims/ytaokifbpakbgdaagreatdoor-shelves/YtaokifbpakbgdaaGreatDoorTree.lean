/-
  Data sets as trees, as bytes, and what is wrong with them (no program): the bytes of a data set by lengths or by marks; a reader of such bytes; the first thing that is wrong.
-/
import Derived.WalkKit
namespace Go.Proofs.YtaokifbpakbgdaaGreatDoor

abbrev By := List UInt8
/-- An element, known down to a depth; nothing is known of one at depth 0. -/
def El : Nat → Type
  | 0 => Unit
  | n + 1 => Int × By × By × List (List (El n))
abbrev Its (n : Nat) := List (List (El n))
def mkE : (n : Nat) → Int → By → By → Its (n - 1) → El n
  | 0, _, _, _, _ => ()
  | _ + 1, t, k, v, its => (t, k, v, its)

abbrev SQ : By := [83, 81]
abbrev UI : By := [85, 73]
def padB (k : By) : UInt8 := if k = UI then 0 else 32
def kinds : List By := [[85, 73], [67, 83], [76, 79], [80, 78], [68, 65], [84, 77], [73, 83], [83, 81]]
def isK (k : By) : Bool := kinds.contains k

/-- The number that bytes are, the lowest first; a number as so many bytes. -/
def le : By → Nat
  | [] => 0
  | c :: l => c.toNat + 256 * le l
def lows : Nat → Nat → By
  | 0, _ => []
  | k + 1, n => UInt8.ofNat (n % 256) :: lows k (n / 256)
theorem lows_length : ∀ k n, (lows k n).length = k
  | 0, _ => rfl
  | k + 1, n => by simp [lows, lows_length k]
theorem le_lows : ∀ k n, le (lows k n) = n % 256 ^ k
  | 0, n => by simp [le, lows, Nat.mod_one]
  | k + 1, n => by
    have e : (UInt8.ofNat (n % 256)).toNat = n % 256 := by rw [UInt8.toNat_ofNat']; omega
    rw [lows, le, le_lows k, e, Nat.pow_succ, Nat.mul_comm (256 ^ k) 256, Nat.mod_mul]
theorem le_lt : ∀ l : By, le l < 256 ^ l.length
  | [] => by simp [le]
  | c :: l => by
    have := le_lt l
    have hc := c.toNat_lt
    rw [le, List.length_cons, Nat.pow_succ]
    omega

/- A reader of bytes: none: something is wrong. -/
def tk (k : Nat) (s : By) : Option (By × By) := if k ≤ s.length then some (s.take k, s.drop k) else none
def nu (k : Nat) (s : By) : Option (Nat × By) := match tk k s with
  | none => none
  | some (a, r) => some (le a, r)
def tg (s : By) : Option (Nat × By) := match nu 2 s with
  | none => none
  | some (u, r) => match nu 2 r with
    | none => none
    | some (l, r) => some (65536 * u + l, r)
def ze (k : Nat) (s : By) : Option By := match nu k s with
  | none => none
  | some (n, r) => if n = 0 then some r else none
def trimB (p : UInt8) (v : By) : By := (v.reverse.dropWhile (· == p)).reverse
def va (k : By) (s : By) : Option (By × By) := match nu 2 s with
  | none => none
  | some (n, r) => if n % 2 = 0 then match tk n r with
      | none => none
      | some (v, r) => some (trimB (padB k) v, r)
    else none
/-- Things up to the end. -/
def toEnd {α : Type} (f : Nat → By → Option (α × By)) : Nat → By → Option (List α)
  | 0, s => if s = [] then some [] else none
  | k + 1, s => if s = [] then some [] else match tg s with
    | none => none
    | some (t, r) => match f t r with
      | none => none
      | some (x, r) => match toEnd f k r with
        | none => none
        | some l => some (x :: l)
/-- Things up to a mark. -/
def toMark {α : Type} (m : Nat) (f : Nat → By → Option (α × By)) : Nat → By → Option (List α × By)
  | 0, _ => none
  | k + 1, s => match tg s with
    | none => none
    | some (t, r) => if t = m then match ze 4 r with
        | none => none
        | some r => some ([], r)
      else match f t r with
      | none => none
      | some (x, r) => match toMark m f k r with
        | none => none
        | some (l, r) => some (x :: l, r)
/-- Things behind their length, or up to a mark. -/
def lg {α : Type} (m : Nat) (f : Nat → By → Option (α × By)) (s : By) : Option (List α × By) := match nu 4 s with
  | none => none
  | some (n, r) => if n = 4294967295 then toMark m f r.length r else match tk n r with
    | none => none
    | some (a, r) => match toEnd f a.length a with
      | none => none
      | some l => some (l, r)
def itP {α : Type} (f : Nat → By → Option (α × By)) (t : Nat) (s : By) : Option (List α × By) := if t = 4294893568 then lg 4294893581 f s else none
def elP : Nat → (n : Nat) → Nat → By → Option (El n × By)
  | 0, _, _, _ => none
  | m + 1, n, t, s => if t / 65536 = 65534 then none else match tk 2 s with
    | none => none
    | some (k, r) => if k = SQ then match ze 2 r with
        | none => none
        | some r => match lg 4294893789 (itP (elP m (n - 1))) r with
          | none => none
          | some (its, r) => some (mkE n t k [] its, r)
      else match va k r with
      | none => none
      | some (v, r) => some (mkE n t k v [], r)
def parse (n : Nat) (s : By) : Option (List (El n)) := toEnd (elP (s.length + 1) n) s.length s

/- What is wrong. -/
def errI {α : Type} (f : List α → Int) : List (List α) → Int
  | [] => 0
  | s :: r => if f s = 0 then errI f r else f s
def errL {α : Type} (e : Int → α → Int) (t : α → Int) : Int → List α → Int
  | _, [] => 0
  | b, x :: l => if e b x = 0 then errL e t (t x) l else e b x
def errE {n : Nat} (g : Its n → Int) (d : Nat) (b : Int) (x : El (n + 1)) : Int :=
  if isK x.2.1 = false then 2
  else if x.1 < 0 ∨ 4294967295 < x.1 ∨ x.1 / 65536 = 65534 ∨ x.1 ≤ b then 3
  else if 64 < x.2.2.1.length ∨ x.2.2.1.getLast? = some (padB x.2.1) then 4
  else if (x.2.1 = SQ ∧ x.2.2.1 ≠ []) ∨ (x.2.1 ≠ SQ ∧ x.2.2.2 ≠ []) then 1
  else if 8 < x.2.2.2.length then 4
  else if x.2.1 = SQ ∧ 2 ≤ d then 5
  else g x.2.2.2
def errS : (n : Nat) → Nat → List (El n) → Int
  | 0, _, l => if 24 < l.length then 4 else 0
  | n + 1, d, l => if 24 < l.length then 4 else errL (errE (errI (errS n (d + 1))) d) (fun x => x.1) (-1) l

/- The bytes. -/
def sizeB (o : Bool) (s : By) : By := if o then [255, 255, 255, 255] else lows 4 s.length
def wrV (p : Nat) (k v : By) : By := (if v.length % 2 = 1 then v ++ [padB k] else v) ++ List.replicate (2 * p) (padB k)
def wrI {α : Type} (f : List α → By) (o : Bool) (s : List α) : By := [254, 255, 0, 224] ++ sizeB o (f s) ++ f s ++ (if o then [254, 255, 13, 224, 0, 0, 0, 0] else [])
def wrT (t : Int) : By := lows 2 (t / 65536).toNat ++ lows 2 (t % 65536).toNat
def wrQ (o : Bool) (a : By) : By := [0, 0] ++ sizeB o a ++ a ++ (if o then [254, 255, 221, 224, 0, 0, 0, 0] else [])
def wrE {n : Nat} (f : List (El n) → By) (o : Bool) (p : Nat) (x : El (n + 1)) : By :=
  wrT x.1 ++ x.2.1 ++ (if x.2.1 = SQ then wrQ o (x.2.2.2.map (wrI f o)).flatten else lows 2 (wrV p x.2.1 x.2.2.1).length ++ wrV p x.2.1 x.2.2.1)
def wrS (o : Bool) (p : Nat) : (n : Nat) → List (El n) → By
  | 0, _ => []
  | n + 1, l => (l.map (wrE (wrS o p n) o p)).flatten
end Go.Proofs.YtaokifbpakbgdaaGreatDoor
