/-
  Package foliolaw on archives: step; Shelves.
-/
import Derived.Test.YtaokifbpakbgdaaGreatDoorArS4
import Derived.Test.YtaokifbpakbgdaaGreatDoorArS5
import Derived.Test.YtaokifbpakbgdaaGreatDoorArS6
namespace Go.Proofs.YtaokifbpakbgdaaGreatDoor
open Go.RowKit

theorem step_any (w0 w : World) (F : Nat → Prop) (wB : Nat) (v : Value) (xs : List Sh) (k : Nat) (kd ar : Int) (s : By) (h : St w0 w F wB v xs k) (hV : Vars w0) (hN : NamesV w0) (hkd : -9223372036854775808 ≤ kd ∧ kd ≤ 9223372036854775807) (har : -9223372036854775808 ≤ ar ∧ ar ≤ 9223372036854775807) (hs : s.length ≤ 9223372036854775807) (h5 : kd ≠ 5) (hne : kd = 1 ∨ 0 < xs.length) (hkb : k ≤ 8796093022208) :
    Calls Tryz.prog 17 #[ptr wB, opV kd ar s] w (StepEnd w0 w wB v xs k) := by
  by_cases k1 : kd = 1
  · subst k1
    exact step_new w0 w F wB v xs k ar s h hkb
  have hx := hne.resolve_left k1
  by_cases kr : kd < 2 ∨ 5 < kd
  · exact step_rest w0 w F wB v xs k kd ar s h hkd k1 kr hx
  rcases (show kd = 4 ∨ kd = 3 ∨ kd = 2 by omega) with rfl | rfl | rfl
  · exact step_count w0 w F wB v xs k ar s h hV hN har hx hkb
  · exact step_delete w0 w F wB v xs k ar s h hV hN har hs hx hkb
  · exact step_store w0 w F wB v xs k ar s h hV hN har hx hkb
/-- A script. -/
abbrev Opn := Int × Int × By
def OpAt (w : World) (a : Addr) (x : Opn) : Prop := w.cell? a = some (.int .i64 x.1) ∧ w.cell? (a.add 1) = some (.int .i64 x.2.1) ∧ w.cell? (a.add 2) = some (.string (bs x.2.2))
def OkOp (x : Opn) : Prop := (-9223372036854775808 ≤ x.1 ∧ x.1 ≤ 9223372036854775807) ∧ (-9223372036854775808 ≤ x.2.1 ∧ x.2.1 ≤ 9223372036854775807) ∧ x.2.2.length ≤ 9223372036854775807
def Scr (w : World) (v : Value) (l : List Opn) : Prop := Sl (fun j => j < w.heap.size) 3 (OpAt w) v l ∧ (∀ x ∈ l, OkOp x) ∧ l.length ≤ 4398046511104
/-- Between two steps. -/
def Lp (w : World) (wB fB : Nat) (fO : Obj) (k : Nat) (wr : World) : Prop := ∃ F v xs, St w wr F wB v xs k ∧ ¬ Ownd wB v xs fB ∧ wr.heap[fB]? = some fO ∧ (k = 0 ∨ 0 < xs.length)
abbrev fstO (s0 : By) : Obj := .cells #[.int .i64 1, .int .i64 0, .string ⟨#[]⟩, .int .i64 2, .int .i64 0, .string (bs s0), .int .i64 4, .int .i64 0, .string ⟨#[]⟩] 34 (0, 0)
theorem Lp.start {w W : World} {fB : Nat} {fO : Obj} (u : Below w.heap.size w W) (hB : W.heap[w.heap.size]? = some (.cells #[.slice none 0 0, .slice none 0 0] 32 (0, 0))) (hf : W.heap[fB]? = some fO) (hne : fB ≠ w.heap.size) : Lp w w.heap.size fB fO 0 W :=
  ⟨fun _ => False, .slice none 0 0, [], ⟨u, ⟨⟨_, hB⟩, World.ownsRow_nil _ _ _ _, id, (fun h => by cases h), (fun j hj => by cases hj)⟩, ⟨List.nodup_nil, (fun j hj => by cases hj), (fun j hj => hj.elim), (fun x hx => by cases hx)⟩, (fun j hj => by rcases hj with e | e | e <;> first | (subst e; exact Nat.le_refl _) | cases e), Nat.le_refl _⟩, (fun h => by rcases h with e | e | e <;> first | exact hne e | cases e), hf, .inl rfl⟩
theorem Lp.up {w wr W : World} {wB fB k : Nat} {fO : Obj} (h : Lp w wB fB fO k wr) (u : Below wr.heap.size wr W) : Lp w wB fB fO k W := by
  obtain ⟨F, v, xs, h1, h2, h3, h4⟩ := h
  exact ⟨F, v, xs, h1.up u (Nat.le_refl _), h2, (u.block _ (lt_of_block h3)).trans h3, h4⟩
theorem Lp.step {w wr : World} {wB fB k : Nat} {fO : Obj} (h : Lp w wB fB fO k wr) (hV : Vars w) (hN : NamesV w) {kd ar : Int} {s : By} (hok : OkOp (kd, ar, s)) (h5 : kd ≠ 5) (h1 : k = 0 → kd = 1) (hk : k ≤ 8796093022208) :
    Calls Tryz.prog 17 #[ptr wB, opV kd ar s] wr fun e w' => e = .returned (.bool true) ∧ Lp w wB fB fO (k + 1) w' := by
  obtain ⟨F, v, xs, g1, g2, g3, g4⟩ := h
  refine (step_any w wr F wB v xs k kd ar s g1 hV hN hok.1 hok.2.1 hok.2.2 h5 (g4.imp h1 id) hk).mono ?_
  rintro e w' ⟨he, F', v', xs', q1, ⟨q2, q3, q4⟩, q5⟩
  have hlt := lt_of_block g3
  refine ⟨he, F', v', xs', q1, fun e => ?_, (q3 fB hlt g2).trans g3, .inr q5⟩
  rcases q4 fB e with e | e
  · exact g2 e
  · omega
theorem fst_at {w : World} {fB k : Nat} {s0 : By} (hs : s0.length ≤ 274877906944) (h : w.heap[fB]? = some (fstO s0)) (hk : k < 3) : ∃ kd ar s, (w.cell? ⟨fB, k * 3, none⟩ = some (.int .i64 kd) ∧ w.cell? ⟨fB, k * 3 + 1, none⟩ = some (.int .i64 ar) ∧ w.cell? ⟨fB, k * 3 + 2, none⟩ = some (.string (bs s))) ∧ OkOp (kd, ar, s) ∧ (k = 0 → kd = 1) ∧ kd ≠ 5 := by
  rcases (show k = 0 ∨ k = 1 ∨ k = 2 by omega) with rfl | rfl | rfl
  · exact ⟨1, 0, [], by simp [World.cell?, h, bs], ⟨by simp, by simp, by simp⟩, fun _ => rfl, by simp⟩
  · exact ⟨2, 0, s0, by simp [World.cell?, h], ⟨by simp, by simp, by simp only; omega⟩, (fun h => by cases h), by simp⟩
  · exact ⟨4, 0, [], by simp [World.cell?, h, bs], ⟨by simp, by simp, by simp⟩, (fun h => by cases h), by simp⟩
set_option maxRecDepth 20000 in
set_option maxHeartbeats 4000000 in
theorem Shelves_any (w : World) (v : Value) (l : List Opn) (h : Scr w v l) (hV : Vars w) (hN : NamesV w) :
    Calls Tryz.prog 4 #[v] w fun e w' => e = .returned (.bool true) ∧ Below w.heap.size w w' := by
  obtain ⟨⟨ad, cap, rfl, hat⟩, hok, hl⟩ := h
  have HA := hid hat
  have HO := hid hok
  have HV := hid hV
  have HN := hid hN
  clear hat hok hV hN
  go_enter Tryz.func4, Tryz.ntmps4
  go_wp2_with fail
  go_at_call 16
  refine (simple_any _).mono ?_
  rintro e w2 ⟨s0, rfl, hs0, u2⟩
  have u2' : Below w.heap.size w w2 := (Below.alloc (Below.refl _ _) (Nat.le_refl _) _).trans (u2.mono (by simp))
  have hwB : w2.heap[w.heap.size]? = some (.cells #[.slice none 0 0, .slice none 0 0] 32 (0, 0)) := (u2.block _ (by simp)).trans (heap_alloc_new _ _)
  have hz2 : w.heap.size + 1 ≤ w2.heap.size := by have := u2.size; rw [World.size_alloc] at this; exact this
  have L0 := hid (Lp.start (fB := w2.heap.size) (fO := fstO s0) (Below.alloc u2' u2'.size (fstO s0)) ((Below.heap_alloc _ _ _ (by omega)).trans hwB) (heap_alloc_new _ _) (by omega))
  clear u2 u2' hwB
  go_wp2_with fail
  go_loopw [5] (fun i wr => ∃ k : Nat, k ≤ 3 + l.length ∧ i = .int .i64 k ∧ Hid (Lp w w.heap.size w2.heap.size (fstO s0) k wr)) (fun i _ => 3 + l.length - (intOf i).toNat)
  case atStart => exact ⟨0, Nat.zero_le _, rfl, L0⟩
  case round =>
    obtain ⟨k, hk, rfl, hLp⟩ := hrel
    by_cases hkl : k < 3 + l.length
    · by_cases hk3 : k < 3
      · obtain ⟨F, v, xs, q1, q2, q3, q4⟩ := hLp.out
        have hfl := lt_of_block q3
        obtain ⟨kd, ar, s, ⟨g0, g1, g2⟩, hok, hk1, k5⟩ := fst_at hs0 q3 hk3
        have HK := hid hok
        have HK1 := hid hk1
        clear q1 q2 q3 q4 hok hk1
        go_wp2_with fail
        go_at_call 17
        refine (Lp.step (hLp.out.up (Below.alloc (Below.refl _ _) (Nat.le_refl _) _)) HV.out HN.out HK.out k5 HK1.out (by omega)).mono ?_
        rintro e w3 ⟨rfl, hL3⟩
        have HL3 := hid hL3
        clear hL3 g0 g1 g2 k5
        go_wp2
        go_roundw
        case rel => exact ⟨k + 1, by omega, by go_num, HL3⟩
        case measure => simp [intOf]; omega
      · obtain ⟨j, rfl⟩ : ∃ j, k = j + 3 := ⟨k - 3, by omega⟩
        have hjl : j < l.length := by omega
        obtain ⟨a, rfl, hab, o0, o1, o2⟩ := HA.out j l[j] (List.getElem?_eq_getElem hjl)
        have HK := hid (HO.out _ (List.getElem_mem hjl))
        obtain ⟨F, v, xs, q1, q2, q3, q4⟩ := hLp.out
        have hzr : a.block < wr.heap.size := Nat.lt_of_lt_of_le hab q1.1.size
        rw [Nat.mul_comm] at o0 o1 o2
        have hab2 : (a.add (j * 3)).block < wr.heap.size := by rw [add_block]; exact hzr
        have g0 : wr.cell? (a.add (j * 3)) = some (.int .i64 (l[j]).1) := cell_keep (q1.1.block _ (by rw [add_block]; exact hab)) o0
        have g1 : wr.cell? ⟨(a.add (j * 3)).block, (a.add (j * 3)).off + 1, none⟩ = some (.int .i64 (l[j]).2.1) := cell_keep (p := ⟨(a.add (j * 3)).block, (a.add (j * 3)).off + 1, none⟩) (q1.1.block _ (show (a.add (j * 3)).block < _ by rw [add_block]; exact hab)) o1
        have g2 : wr.cell? ⟨(a.add (j * 3)).block, (a.add (j * 3)).off + 2, none⟩ = some (.string (bs (l[j]).2.2)) := cell_keep (p := ⟨(a.add (j * 3)).block, (a.add (j * 3)).off + 2, none⟩) (q1.1.block _ (show (a.add (j * 3)).block < _ by rw [add_block]; exact hab)) o2
        clear q1 q2 q3 q4 o0 o1 o2
        generalize l[j] = x at g0 g1 g2 HK
        obtain ⟨kd, ar, s⟩ := x
        simp only at g0 g1 g2
        by_cases k5 : kd = 5
        · subst k5
          go_wp2_with fail
          go_at_call 17
          refine (Lp.step (hLp.out.up (Below.alloc (Below.refl _ _) (Nat.le_refl _) _)) HV.out HN.out (kd := 4) ⟨by simp, HK.out.2.1, HK.out.2.2⟩ (by simp) (fun h => by omega) (by omega)).mono ?_
          rintro e w3 ⟨rfl, hL3⟩
          have HL3 := hid hL3
          clear hL3 g0 g1 g2
          go_wp2
          go_roundw
          case rel => exact ⟨j + 3 + 1, by omega, by go_num, HL3⟩
          case measure => simp [intOf]; omega
        · go_wp2_with fail
          go_at_call 17
          refine (Lp.step (hLp.out.up (Below.alloc (Below.refl _ _) (Nat.le_refl _) _)) HV.out HN.out HK.out k5 (fun h => by omega) (by omega)).mono ?_
          rintro e w3 ⟨rfl, hL3⟩
          have HL3 := hid hL3
          clear hL3 g0 g1 g2 k5
          go_wp2
          go_roundw
          case rel => exact ⟨j + 3 + 1, by omega, by go_num, HL3⟩
          case measure => simp [intOf]; omega
    · obtain ⟨F, v, xs, q1, q2, q3, q4⟩ := hLp.out
      have hx : 0 < xs.length := q4.resolve_left (by omega)
      obtain ⟨g, cp, rfl, cq⟩ := q1.2.1.at hx
      obtain ⟨c0, f0⟩ := q1.2.1.cell
      have Q1 := hid q1
      have hlen : xs.length ≤ 4398046511107 := Nat.le_trans q1.2.2.2.2 (by omega)
      have hbl := q1.2.1.lt
      have C0 := hid c0
      clear q1 q2 q3 q4 cq c0 f0
      obtain ⟨wA, rfl⟩ : ∃ wA, wA = wr := ⟨_, rfl⟩
      go_wp2_with fail
      go_loopw [8] (fun i wq => ∃ q : Nat, q ≤ xs.length ∧ i = .int .i64 q ∧ Hid (Below wA.heap.size wA wq)) (fun i _ => xs.length - (intOf i).toNat)
      case atStart => exact ⟨0, Nat.zero_le _, rfl, Below.refl _ _⟩
      case round =>
        obtain ⟨q, hq, rfl, hU⟩ := hrel
        have c0 := (hU.out.cell (p := ⟨w.heap.size, 0, none⟩) hbl).trans C0.out
        by_cases hql : q < xs.length
        · have h2 := Q1.out.up hU.out (Nat.le_refl _)
          obtain ⟨g', cp', hv', cq⟩ := h2.2.1.at hql
          obtain ⟨e1, _, rfl⟩ := Value.slice.inj hv'
          cases e1
          obtain ⟨p1, p2, p3, p4, p5, _⟩ := h2.2.2.1.2.2.2 _ (List.getElem_mem hql)
          have c1 := counted_any F wr _ _ _ _ _ _ p1 p3 p4 h2.2.2.1.2.2.1 p5 p5.short (HN.out.up h2.1)
          have C1 := hid c1
          clear h2 p1 p2 p3 p4 p5 c1
          go_wp2_with fail
          go_at_call 18
          refine C1.out.mono ?_
          rintro e w3 ⟨rfl, u3⟩
          have U3 := hid (hU.out.trans (u3.mono hU.out.size))
          clear u3 C1 c0 cq
          go_wp2
          go_roundw
          case rel => exact ⟨q + 1, by omega, by go_num, U3⟩
          case measure => simp [intOf]; omega
        · go_wp2
          go_ret
          exact ⟨rfl, Q1.out.1.trans (hU.out.mono Q1.out.1.size)⟩
end Go.Proofs.YtaokifbpakbgdaaGreatDoor
