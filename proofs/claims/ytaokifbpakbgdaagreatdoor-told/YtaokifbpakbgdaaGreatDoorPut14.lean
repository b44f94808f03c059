/-
  Several texts in one; what each one has stands at its head.
-/
import Derived.Shelf.SlIter.Nil
import Derived.Shelf.SortM.Plain
import Derived.Shelf.SortM.SortNone
import Derived.Test.YtaokifbpakbgdaaGreatDoorProg
import Derived.Test.YtaokifbpakbgdaaGreatDoorPut13
import Derived.Test.YtaokifbpakbgdaaGreatDoorPut12
import Derived.Test.YtaokifbpakbgdaaGreatDoorPut7
import Derived.Laws.IdiomStrings
/- What slices.Sorted(maps.Keys(m)) answers at a map with strings for keys, at this program's numbers (laid by the kit's own tool). -/
namespace Go.Proofs
open Go.RowKit Go.Maps Go.Sort Go.Shelf
def Tryz.keys115_ren : Go.Shelf.Ren := ⟨fun | 7 => 115 | 10 => 188 | n => n, fun | 23 => 143 | 26 => 9 | 3 => 127 | 28 => 149 | 0 => 0 | 27 => 148 | 33 => 89 | 4 => 4 | n => n, fun | n => n⟩
theorem Tryz.keys115 : Go.Proofs.SlLaysZ.n7 Tryz.prog Tryz.keys115_ren := {
  mixed := by kernel_rfl
  f7 := ⟨Tryz.f115.name, by decide, Tryz.func115.trans (congrArg some (by kernel_rfl))⟩
  f10 := ⟨Tryz.f188.name, by decide, Tryz.func188.trans (congrArg some (by kernel_rfl))⟩
  t0 := Tryz.underlying0
  a0 := Tryz.isAgg0
  z0 := Tryz.sizeOf0
  v0 := Tryz.zeroValue0
  t4 := Tryz.underlying4
  a4 := Tryz.isAgg4
  z4 := Tryz.sizeOf4
  v4 := Tryz.zeroValue4
  t23 := Tryz.underlying143
  a23 := Tryz.isAgg143
  z23 := Tryz.sizeOf143
  v23 := Tryz.zeroValue143
  t26 := Tryz.underlying9
  a26 := Tryz.isAgg9
  z26 := Tryz.sizeOf9
  v26 := Tryz.zeroValue9
  t27 := Tryz.underlying148
  a27 := Tryz.isAgg148
  z27 := Tryz.sizeOf148
  v27 := Tryz.zeroValue148
  t28 := Tryz.underlying149
  a28 := Tryz.isAgg149
  z28 := Tryz.sizeOf149
  v28 := Tryz.zeroValue149
  t33 := Tryz.underlying89
  a33 := Tryz.isAgg89
  z33 := Tryz.sizeOf89
  v33 := Tryz.zeroValue89 }
def Tryz.sorted114_ren : Go.Shelf.Ren := ⟨fun | 6 => 114 | 8 => 186 | 9 => 187 | 11 => 238 | 13 => 240 | 12 => 239 | 23 => 290 | 24 => 291 | 14 => 281 | 15 => 282 | 16 => 283 | 17 => 284 | 18 => 285 | 19 => 286 | 20 => 287 | 21 => 288 | 22 => 289 | 25 => 312 | 26 => 313 | 27 => 314 | 28 => 315 | 29 => 316 | 30 => 317 | 31 => 325 | n => n, fun | 26 => 9 | 28 => 149 | 24 => 70 | 0 => 0 | 3 => 3 | 37 => 221 | 48 => 293 | 50 => 270 | 4 => 4 | 40 => 287 | 39 => 286 | 45 => 117 | 5 => 5 | 9 => 9 | 51 => 314 | 55 => 318 | 57 => 332 | 58 => 333 | 33 => 89 | n => n, fun | n => n⟩
theorem Tryz.sorted114 : Go.Proofs.SlLaysZ.n6 Tryz.prog Tryz.sorted114_ren := {
  mixed := by kernel_rfl
  f6 := ⟨Tryz.f114.name, by decide, Tryz.func114.trans (congrArg some (by kernel_rfl))⟩
  f8 := ⟨Tryz.f186.name, by decide, Tryz.func186.trans (congrArg some (by kernel_rfl))⟩
  f11 := ⟨Tryz.f238.name, by decide, Tryz.func238.trans (congrArg some (by kernel_rfl))⟩
  t0 := Tryz.underlying0
  a0 := Tryz.isAgg0
  z0 := Tryz.sizeOf0
  v0 := Tryz.zeroValue0
  t24 := Tryz.underlying70
  a24 := Tryz.isAgg70
  z24 := Tryz.sizeOf70
  v24 := Tryz.zeroValue70
  t26 := Tryz.underlying9
  a26 := Tryz.isAgg9
  z26 := Tryz.sizeOf9
  v26 := Tryz.zeroValue9
  t28 := Tryz.underlying149
  a28 := Tryz.isAgg149
  z28 := Tryz.sizeOf149
  v28 := Tryz.zeroValue149
  i26 := by kernel_rfl }
def Tryz.sort187_ren : Go.Shelf.Ren := ⟨fun | 6 => 187 | 8 => 240 | 9 => 239 | 19 => 290 | 20 => 291 | 21 => 281 | 22 => 282 | 23 => 283 | 24 => 284 | 25 => 285 | 26 => 286 | 27 => 287 | 28 => 288 | 29 => 289 | 36 => 312 | 31 => 313 | 32 => 314 | 37 => 315 | 38 => 316 | 39 => 317 | 41 => 325 | n => n, fun | 27 => 70 | 29 => 9 | 3 => 3 | 32 => 221 | 26 => 70 | 0 => 0 | 44 => 293 | 46 => 270 | 4 => 4 | 36 => 287 | 35 => 286 | 41 => 117 | 5 => 5 | 9 => 9 | 53 => 314 | 57 => 318 | 63 => 332 | 64 => 333 | n => n, fun | n => n⟩
theorem Tryz.sort187 : Go.Proofs.SlLaysM.n6 Tryz.prog Tryz.sort187_ren := {
  mixed := by kernel_rfl
  f6 := ⟨Tryz.f187.name, by decide, Tryz.func187.trans (congrArg some (by kernel_rfl))⟩
  f8 := Tryz.func240.trans (congrArg some (by kernel_rfl))
  f9 := ⟨Tryz.f239.name, by decide, Tryz.func239.trans (congrArg some (by kernel_rfl))⟩
  f19 := Tryz.func290.trans (congrArg some (by kernel_rfl))
  f20 := Tryz.func291.trans (congrArg some (by kernel_rfl))
  f21 := ⟨Tryz.f281.name, by decide, Tryz.func281.trans (congrArg some (by kernel_rfl))⟩
  f22 := ⟨Tryz.f282.name, by decide, Tryz.func282.trans (congrArg some (by kernel_rfl))⟩
  f23 := ⟨Tryz.f283.name, by decide, Tryz.func283.trans (congrArg some (by kernel_rfl))⟩
  f24 := ⟨Tryz.f284.name, by decide, Tryz.func284.trans (congrArg some (by kernel_rfl))⟩
  f25 := ⟨Tryz.f285.name, by decide, Tryz.func285.trans (congrArg some (by kernel_rfl))⟩
  f26 := ⟨Tryz.f286.name, by decide, Tryz.func286.trans (congrArg some (by kernel_rfl))⟩
  f27 := ⟨Tryz.f287.name, by decide, Tryz.func287.trans (congrArg some (by kernel_rfl))⟩
  f28 := ⟨Tryz.f288.name, by decide, Tryz.func288.trans (congrArg some (by kernel_rfl))⟩
  f29 := ⟨Tryz.f289.name, by decide, Tryz.func289.trans (congrArg some (by kernel_rfl))⟩
  f31 := Tryz.func313.trans (congrArg some (by kernel_rfl))
  f32 := Tryz.func314.trans (congrArg some (by kernel_rfl))
  f36 := ⟨Tryz.f312.name, by decide, Tryz.func312.trans (congrArg some (by kernel_rfl))⟩
  f37 := ⟨Tryz.f315.name, by decide, Tryz.func315.trans (congrArg some (by kernel_rfl))⟩
  f38 := ⟨Tryz.f316.name, by decide, Tryz.func316.trans (congrArg some (by kernel_rfl))⟩
  f39 := ⟨Tryz.f317.name, by decide, Tryz.func317.trans (congrArg some (by kernel_rfl))⟩
  f41 := ⟨Tryz.f325.name, by decide, Tryz.func325.trans (congrArg some (by kernel_rfl))⟩
  t0 := Tryz.underlying0
  a0 := Tryz.isAgg0
  z0 := Tryz.sizeOf0
  v0 := Tryz.zeroValue0
  t3 := Tryz.underlying3
  a3 := Tryz.isAgg3
  z3 := Tryz.sizeOf3
  v3 := Tryz.zeroValue3
  t4 := Tryz.underlying4
  a4 := Tryz.isAgg4
  z4 := Tryz.sizeOf4
  v4 := Tryz.zeroValue4
  t5 := Tryz.underlying5
  a5 := Tryz.isAgg5
  z5 := Tryz.sizeOf5
  v5 := Tryz.zeroValue5
  t9 := Tryz.underlying9
  a9 := Tryz.isAgg9
  z9 := Tryz.sizeOf9
  v9 := Tryz.zeroValue9
  t26 := Tryz.underlying70
  a26 := Tryz.isAgg70
  z26 := Tryz.sizeOf70
  v26 := Tryz.zeroValue70
  t27 := Tryz.underlying70
  a27 := Tryz.isAgg70
  z27 := Tryz.sizeOf70
  v27 := Tryz.zeroValue70
  t29 := Tryz.underlying9
  a29 := Tryz.isAgg9
  z29 := Tryz.sizeOf9
  v29 := Tryz.zeroValue9
  t32 := Tryz.underlying221
  a32 := Tryz.isAgg221
  z32 := Tryz.sizeOf221
  v32 := Tryz.zeroValue221
  t35 := Tryz.underlying286
  a35 := Tryz.isAgg286
  z35 := Tryz.sizeOf286
  v35 := Tryz.zeroValue286
  t36 := Tryz.underlying287
  a36 := Tryz.isAgg287
  z36 := Tryz.sizeOf287
  v36 := Tryz.zeroValue287
  t41 := Tryz.underlying117
  a41 := Tryz.isAgg117
  z41 := Tryz.sizeOf117
  v41 := Tryz.zeroValue117
  t44 := Tryz.underlying293
  a44 := Tryz.isAgg293
  z44 := Tryz.sizeOf293
  v44 := Tryz.zeroValue293
  t46 := Tryz.underlying270
  a46 := Tryz.isAgg270
  z46 := Tryz.sizeOf270
  v46 := Tryz.zeroValue270
  t53 := Tryz.underlying314
  a53 := Tryz.isAgg314
  z53 := Tryz.sizeOf314
  v53 := Tryz.zeroValue314
  t57 := Tryz.underlying318
  a57 := Tryz.isAgg318
  z57 := Tryz.sizeOf318
  v57 := Tryz.zeroValue318
  t63 := Tryz.underlying332
  a63 := Tryz.isAgg332
  z63 := Tryz.sizeOf332
  v63 := Tryz.zeroValue332
  t64 := Tryz.underlying333
  a64 := Tryz.isAgg333
  z64 := Tryz.sizeOf333
  v64 := Tryz.zeroValue333 }
theorem Tryz.sorts114 (m : Nat) : AnyZ.SortsIn Tryz.prog Tryz.sorted114_ren Fence.wide m :=
  ⟨fun blk off cap ss W hH hblk hsz => callsIn_wide.2 (AnyM.slices_Sort_string Tryz.sort187 blk off cap ss W hH hblk hsz),
   fun p cap W => callsIn_wide.2 (AnyM.slices_Sort_string_none Tryz.sort187 p cap W)⟩

theorem Tryz.maps_Keys_115 (mb : Option Nat) (W : World) : CallsIn Fence.wide 5 Tryz.prog 115 #[.map mb] W fun e w' => e = .returned (.func (.func 188) #[] #[.pointer (some ⟨W.heap.size, 0, none⟩)]) ∧ w' = W.alloc (.cells #[.map mb] 143) :=
  AnyZ.keys_in Tryz.keys115 Fence.wide 5 trivial rfl mb W

set_option maxHeartbeats 1000000 in
theorem Tryz.slices_Sorted_keys_114_115 {H : Type} (b nn : Nat) (D0 : DataW H) (R : Value → Option (DataW H × List MemPlace)) (w : World) (hown : w.ownsMap Tryz.prog 9 R b nn D0) (hmax : Maps.size D0 ≤ maxLen) (hbytes : Maps.size D0 * 16 ≤ 140737488355328) :
    CallsIn Fence.wide 5 Tryz.prog 114 #[.func (.func 188) #[] #[.pointer (some ⟨w.heap.size, 0, none⟩)]] (w.alloc (.cells #[.map (some b)] 143)) fun e w' => ∃ (v : Value) (ss : List (List UInt8)), e = .returned v ∧ ss.Perm (strKeys D0) ∧
      w'.ownsRow (w.alloc (.cells #[.map (some b)] 143)).heap.size 9 1 v ss.length ((ss.mergeSort (fun x y => decide (x ≤ y))).map encStr) ∧ (v = .slice none 0 0 ↔ ss = []) ∧ Below (w.alloc (.cells #[.map (some b)] 143)).heap.size (w.alloc (.cells #[.map (some b)] 143)) w' := by
  have hbl := hown.lt
  have hseq : SeqGives Fence.wide 2 Tryz.prog 188 #[.pointer (some ⟨w.heap.size, 0, none⟩)] encStr (fun ss => ss.Perm (strKeys D0)) (Maps.size D0) (w.alloc (.cells #[.map (some b)] 143)) :=
    AnyZ.keys_gives (ρ := Tryz.keys115_ren) { Tryz.keys115 with } Fence.wide _ trivial rfl (by omega) w.heap.size b nn D0 _ (by simp) (by simp) (by
      obtain ⟨es, clock, hb, Ft, hs, hD⟩ := hown
      exact ⟨es, clock, (Below.heap_alloc _ _ b hbl).trans hb, Ft, hs, hD⟩)
  exact AnyZ.sorted_in Tryz.sorted114 Fence.wide 5 trivial trivial trivial trivial rfl (by omega) (Tryz.sorts114 _) (enters_of Tryz.func187 (by kernel_rfl) rfl) 188 #[.pointer (some ⟨w.heap.size, 0, none⟩)] trivial (enters_of Tryz.func188 (by kernel_rfl) rfl) _ _ hmax hbytes _ hseq
end Go.Proofs

/- Package archive: the names that were found, in order (slices.Sorted over maps.Keys); which description is the last one of a thing. -/
namespace Go.Proofs.YtaokifbpakbgdaaGreatDoor
open Go.RowKit Go.Maps Go.Shelf Go.Sort

/-- The description of a thing that was laid in last. -/
def lastA {n : Nat} (A : List (List (El (n + 1)))) (lvl : Nat) (s : By) : List (El (n + 1)) := ((A.filter (fun o => nm lvl o == s)).getLast?).getD []
theorem lastA_of {n : Nat} {A : List (List (El (n + 2)))} {pd : List (El (n + 2)) → Nat × Int} {xs : List (Of A)} (hp : (xs.map (·.1)).Perm A) (hm : A.Pairwise (fun l l' => (pd l).2 < (pd l').2)) {lvl : Nat} {s : By} {y : Of A} (h : IsLast pd (grp lvl s xs) y) : lastA A lvl s = y.1 := by
  have hP := grp_perm hp lvl s
  have hy : y.1 ∈ A.filter (fun o => nm lvl o == s) := hP.subset (List.mem_map.2 ⟨y, h.1, rfl⟩)
  have hF := hm.filter (fun o => nm lvl o == s)
  unfold lastA
  generalize A.filter (fun o => nm lvl o == s) = L at hP hy hF
  have hne : L ≠ [] := fun e => by rw [e] at hy; simp at hy
  rw [List.getLast?_eq_some_getLast hne]
  show L.getLast hne = y.1
  have hz : L.getLast hne ∈ L := List.getLast_mem hne
  obtain ⟨x, hx, ex⟩ := List.mem_map.1 (hP.symm.subset hz)
  have hle := h.2 x hx
  have hd := List.dropLast_concat_getLast hne
  by_cases e : y.1 ∈ L.dropLast
  · rw [← hd] at hF
    have := (List.pairwise_append.1 hF).2.2 y.1 e (L.getLast hne) (List.mem_singleton.2 rfl)
    have ex' : (pd x.1).2 = (pd (L.getLast hne)).2 := by rw [← ex]
    omega
  · rw [← hd] at hy
    rcases List.mem_append.1 hy with hy | hy
    · exact absurd hy e
    · exact (List.mem_singleton.1 hy).symm
theorem Pics.pdA {w : World} {F : Nat → Prop} {n : Nat} {f : Lit → Option Value} : ∀ {A : List (List (El (n + 2)))} {ps : List (Nat × Int)}, Pics w F n f A ps → A.Nodup → ∃ pd : List (El (n + 2)) → Nat × Int, A.map pd = ps ∧ ∀ l ∈ A, F (pd l).1 ∧ f (keyS (nm 3 l)) = some (picV (pd l).1 (pd l).2) ∧ DMk w F (n + 1) (pd l).1 24 (descG l)
  | [], [], _, _ => ⟨fun _ => (0, 0), rfl, fun l hl => by simp at hl⟩
  | l :: A, p :: ps, h, hn => by
    classical
    obtain ⟨h1, h2, h3, h4⟩ := h
    obtain ⟨hl, hn2⟩ := List.nodup_cons.1 hn
    obtain ⟨pd, e1, e2⟩ := Pics.pdA h4 hn2
    refine ⟨fun o => if o = l then p else pd o, ?_, fun o ho => ?_⟩
    · rw [List.map_cons, if_pos rfl, ← e1]
      congr 1
      exact List.map_congr_left (fun o ho => if_neg (fun (e : o = l) => hl (by rw [← e]; exact ho)))
    · by_cases e : o = l
      · subst e; simp only [if_pos]; exact ⟨h2, h1, h3⟩
      · simp only [if_neg e]
        rcases List.mem_cons.1 ho with ho | ho
        · exact absurd ho e
        · exact e2 o ho
theorem ProA.arcD {w : World} {F : Nat → Prop} {n a m : Nat} {T : Int} {A : List (List (El (n + 2)))} (h : ProA w F n a m T A) (hG : Good A) : ∃ f pd, ArcD w F a m T A f pd ∧ (∀ k, (f k).isSome = true ↔ ∃ l ∈ A, k = keyS (nm 3 l)) ∧ A.Pairwise (fun l l' => (pd l).2 < (pd l').2) := by
  obtain ⟨h1, f, ps, h2, h3, h4, _, h6⟩ := h
  have hA : A.Nodup := by
    have := hG.2.1
    rw [List.Nodup, List.pairwise_map] at this
    exact this.imp (fun h e => h (by rw [e]))
  obtain ⟨pd, e1, e2⟩ := h3.pdA hA
  refine ⟨f, pd, ⟨h1, h2, fun l hl => (e2 l hl).2⟩, h6, ?_⟩
  rw [← e1, List.map_map, List.pairwise_map] at h4
  exact h4
theorem mapsKeys_any (w : World) (mb : Option Nat) : Calls Tryz.prog 115 #[.map mb] w fun e w' => e = .returned (.func (.func 188) #[] #[.pointer (some ⟨w.heap.size, 0, none⟩)]) ∧ w' = w.alloc (.cells #[.map mb] 143) := callsIn_wide.1 (Tryz.maps_Keys_115 mb w)
theorem sortedKeys_any (w : World) (b n : Nat) (f : Lit → Option Value) (S : List By) (h : MapF w Tryz.prog 9 b n f) (hn : S.length ≤ 100) (hS : S.Nodup) (hm : ∀ x, x ∈ S ↔ (f (keyS x)).isSome = true) (hk : ∀ k, (f k).isSome = true → ∃ s, k = keyS s) :
    Calls Tryz.prog 114 #[.func (.func 188) #[] #[.pointer (some ⟨w.heap.size, 0, none⟩)]] (w.alloc (.cells #[.map (some b)] 143)) fun e w' => ∃ v, e = .returned v ∧ w'.ownsRow (w.heap.size + 1) 9 1 v S.length ((S.mergeSort Go.leB).map (fun s => .string (bs s))) ∧ Below (w.heap.size + 1) (w.alloc (.cells #[.map (some b)] 143)) w' := by
  obtain ⟨D, h1, h2⟩ := h
  have hsz : Maps.size D = S.length := by
    have := size_keys h1 (Maps.string_keyed Tryz.underlying9) (keyS_nodup hS) (fun kl => by
      rw [h2, List.mem_map]
      constructor
      · rintro ⟨s, hs, rfl⟩; exact (hm s).1 hs
      · intro h
        obtain ⟨s, rfl⟩ := hk kl h
        exact ⟨s, (hm s).2 h, rfl⟩)
    rw [this, List.length_map]
  have hP : S.Perm (strKeys D) := Collected.perm (left := fun _ => false) ⟨hS, fun x => by rw [hm x, ← h2, has_view h1 (Maps.string_keyed Tryz.underlying9)]; simp [keyS]⟩ h1 (Maps.string_keyed Tryz.underlying9) Tryz.underlying9 (fun _ => rfl)
  refine (callsIn_wide.1 (Tryz.slices_Sorted_keys_114_115 b n D heldR w h1 (by unfold maxLen; omega) (by omega))).mono ?_
  rintro e w' ⟨v, ss, rfl, hp, hr, _, hB⟩
  rw [World.size_alloc] at hr hB
  refine ⟨v, rfl, ?_, hB⟩
  rw [show (ss.mergeSort (fun x y => decide (x ≤ y))) = S.mergeSort Go.leB from mergeSort_of_perm (hp.trans hP.symm), (hp.trans hP.symm).length_eq] at hr
  exact hr
end Go.Proofs.YtaokifbpakbgdaaGreatDoor

/- Package archive: answers, its first loop: what is found. -/
namespace Go.Proofs.YtaokifbpakbgdaaGreatDoor
open Go.RowKit Go.Maps Go.Shelf Go.Sort

/-- What is told of the thing of a name; does it fit keys? -/
def gS {n : Nat} (A : List (List (El (n + 2)))) (lvl : Nat) (s : By) : Int → Option (El (n + 2)) := tellN A lvl (lastA A lvl s) 3
def fitN {n : Nat} (A : List (List (El (n + 2)))) (lvl : Nat) (q : List (El (n + 2))) (s : By) : Bool := fitD (gS A lvl s) q
/-- What was found so far; 'av': blocks in which no description lies. -/
def FoundI {n : Nat} (w : World) (F av : Nat → Prop) (fb : Nat) (A : List (List (El (n + 2)))) (lvl : Nat) (q : List (El (n + 2))) (done : By → Prop) (cnt : Nat) : Prop :=
  ∃ (ff : Lit → Option Value) (cs : By → Nat), MapF w Tryz.prog 9 fb cnt ff ∧ (∀ s, done s → fitN A lvl q s = true → ff (keyS s) = some (.map (some (cs s))) ∧ ¬ av (cs s) ∧ DMk w F (n + 1) (cs s) 28 (gS A lvl s)) ∧ (∀ s, ¬ (done s ∧ fitN A lvl q s = true) → ff (keyS s) = none) ∧ ∀ k, (ff k).isSome = true → ∃ s, k = keyS s
theorem FoundI.keep {n : Nat} {w w' : World} {F av : Nat → Prop} {fb : Nat} {A : List (List (El (n + 2)))} {lvl : Nat} {q : List (El (n + 2))} {done : By → Prop} {cnt : Nat} (h : FoundI w F av fb A lvl q done cnt) (hb : w'.heap[fb]? = w.heap[fb]?) (hF : ∀ j, F j → ¬ av j) (hk : ∀ j, ¬ av j → j < w.heap.size → w'.heap[j]? = w.heap[j]?) : FoundI w' F av fb A lvl q done cnt := by
  obtain ⟨ff, cs, h1, h2, h3, h4⟩ := h
  exact ⟨ff, cs, h1.kept hb, fun s hs hf => ⟨(h2 s hs hf).1, (h2 s hs hf).2.1, (h2 s hs hf).2.2.keep (hk _ (h2 s hs hf).2.1 (h2 s hs hf).2.2.lt) (fun _ h => h) (fun j hj hl => hk j (hF j hj) hl)⟩, h3, h4⟩
theorem FoundI.lt {n : Nat} {w : World} {F av : Nat → Prop} {fb : Nat} {A : List (List (El (n + 2)))} {lvl : Nat} {q : List (El (n + 2))} {done : By → Prop} {cnt : Nat} (h : FoundI w F av fb A lvl q done cnt) : fb < w.heap.size := by
  obtain ⟨ff, cs, h1, _⟩ := h
  exact h1.lt
theorem FoundI.up {n : Nat} {w w' : World} {F av : Nat → Prop} {fb : Nat} {A : List (List (El (n + 2)))} {lvl : Nat} {q : List (El (n + 2))} {done : By → Prop} {cnt : Nat} (h : FoundI w F av fb A lvl q done cnt) (hF : ∀ j, F j → ¬ av j) (k : Below w.heap.size w w') : FoundI w' F av fb A lvl q done cnt := h.keep (k.block _ h.lt) hF (fun j _ hj => k.block j hj)
theorem FoundI.cast {n : Nat} {w : World} {F av : Nat → Prop} {fb : Nat} {A : List (List (El (n + 2)))} {lvl : Nat} {q : List (El (n + 2))} {done done' : By → Prop} {cnt cnt' : Nat} (h : FoundI w F av fb A lvl q done cnt) (hd : ∀ s, fitN A lvl q s = true → (done s ↔ done' s)) (hc : cnt ≤ cnt') : FoundI w F av fb A lvl q done' cnt' := by
  obtain ⟨ff, cs, h1, h2, h3, h4⟩ := h
  exact ⟨ff, cs, h1.mono hc, fun s hs hf => h2 s ((hd s hf).2 hs) hf, fun s hs => h3 s (fun ⟨a, b⟩ => hs ⟨(hd s b).1 a, b⟩), h4⟩
theorem FoundI.put {n : Nat} {w w' : World} {F av : Nat → Prop} {fb c cnt : Nat} {A : List (List (El (n + 2)))} {lvl : Nat} {q : List (El (n + 2))} {done : By → Prop} {ff : Lit → Option Value} {cs : By → Nat} {s : By}
    (h2 : ∀ s, done s → fitN A lvl q s = true → ff (keyS s) = some (.map (some (cs s))) ∧ ¬ av (cs s) ∧ DMk w F (n + 1) (cs s) 28 (gS A lvl s)) (h3 : ∀ s, ¬ (done s ∧ fitN A lvl q s = true) → ff (keyS s) = none) (h4 : ∀ k, (ff k).isSome = true → ∃ s, k = keyS s)
    (hM : MapF w' Tryz.prog 9 fb cnt (upd ff (keyS s) (some (.map (some c))))) (hg : w.grownBy w' (some fb)) (hF : ∀ j, F j → ¬ av j) (hav : av fb) (hc : ¬ av c) (hD : DMk w F (n + 1) c 28 (gS A lvl s)) (hfit : fitN A lvl q s = true) : FoundI w' F av fb A lvl q (fun t => done t ∨ t = s) cnt := by
  classical
  have hx : ∀ b : Nat, ¬ av b → some b ≠ some fb := fun b hb e => by
    injection e with e
    rw [e] at hb
    exact hb hav
  have hk : ∀ (b : Nat) (g : Int → Option (El (n + 2))), ¬ av b → DMk w F (n + 1) b 28 g → DMk w' F (n + 1) b 28 g := fun b g hb h => h.keep (hg.block b h.lt (hx b hb)) (fun _ h => h) (fun j hj hl => hg.block j hl (hx j (hF j hj)))
  have hK : ∀ t : By, (keyS t).sameKey (keyS s) = true ↔ t = s := fun t => by
    rw [same_iff (show WideAt.IsKeyLit (keyS s) from trivial)]
    exact ⟨fun e => by injection e, fun e => by rw [e]⟩
  refine ⟨_, fun t => if t = s then c else cs t, hM, fun t ht hf => ?_, fun t ht => ?_, fun k hk => ?_⟩
  · by_cases e : t = s
    · subst e
      simp only [upd, if_pos ((hK t).2 rfl), if_pos]
      exact ⟨trivial, hc, hk _ _ hc hD⟩
    · simp only [upd, if_neg (fun h => e ((hK t).1 h)), if_neg e]
      have := h2 t (ht.resolve_right e) hf
      exact ⟨this.1, this.2.1, hk _ _ this.2.1 this.2.2⟩
  · by_cases e : t = s
    · exact absurd ⟨Or.inr e, e ▸ hfit⟩ ht
    · simp only [upd, if_neg (fun h => e ((hK t).1 h))]
      exact h3 t (fun h => ht ⟨Or.inl h.1, h.2⟩)
  · unfold upd at hk
    by_cases e : k.sameKey (keyS s) = true
    · exact ⟨s, WideAt.sameKey_eq e⟩
    · rw [if_neg e] at hk; exact h4 k hk
theorem ownsRow_ge {w : World} {base base' : Nat} {e : TypeId} {k : Nat} {v : Value} {n : Nat} {xs : List Value} (h : w.ownsRow base e k v n xs) (hb : base' ≤ base) : w.ownsRow base' e k v n xs := by
  obtain ⟨q1, q2⟩ := h
  rcases q2 with ⟨rfl, q2⟩ | ⟨g, cap, cur, rfl, q2, q3⟩
  · exact ⟨q1, Or.inl ⟨rfl, q2⟩⟩
  · exact ⟨q1, Or.inr ⟨g, cap, cur, rfl, Nat.le_trans hb q2, q3⟩⟩
theorem grownBy_but {w w' : World} {fb : Nat} (h : w.grownBy w' (some fb)) : KeepsBut fb 0 w w' := ⟨h.size, fun k o hk ho _ => by rw [h.block k (Array.getElem?_eq_some_iff.1 ho).1 (fun e => hk (by simpa using e)), ho], fun k hk => by omega⟩
theorem UpB.grown1 {b : Nat} {w a a' : World} (h : UpB b w a) (hg : a.grownBy a' (some b)) : UpB b w a' := h.grown hg (fun k e => by cases e; exact Or.inl rfl)
end Go.Proofs.YtaokifbpakbgdaaGreatDoor

/- Package folioref on archives: fits. -/
namespace Go.Proofs.YtaokifbpakbgdaaGreatDoor
open Go.RowKit

def itemsE {n : Nat} (l : List (El (n + 1))) (t : Int) : Its n := match findE l t with
  | some x => x.2.2.2
  | none => []
end Go.Proofs.YtaokifbpakbgdaaGreatDoor

/- Package archive: answers. -/
namespace Go.Proofs.YtaokifbpakbgdaaGreatDoor
open Go.RowKit Go.Maps Go.Shelf Go.Sort

/-- The names of what fits; what is answered. -/
def namesF {n : Nat} (A : List (List (El (n + 2)))) (lvl : Nat) (q : List (El (n + 2))) : List By := (seenA lvl A []).filter (fitN A lvl q)
def ansL {n : Nat} (A : List (List (El (n + 2)))) (lvl : Nat) (q : List (El (n + 2))) : List By := ((namesF A lvl q).mergeSort Go.leB).map (fun s => ansB (gS A lvl s) q)
theorem namesF_mem {n : Nat} {A : List (List (El (n + 2)))} {lvl : Nat} {q : List (El (n + 2))} {s : By} : s ∈ namesF A lvl q ↔ (∃ l ∈ A, nm lvl l = s) ∧ fitN A lvl q s = true := by
  unfold namesF
  rw [List.mem_filter, seenA_mem]
  simp
theorem namesF_nodup {n : Nat} (A : List (List (El (n + 2)))) (lvl : Nat) (q : List (El (n + 2))) : (namesF A lvl q).Nodup := (seenA_nodup lvl A [] List.nodup_nil).filter _
theorem namesF_len {n : Nat} (A : List (List (El (n + 2)))) (lvl : Nat) (q : List (El (n + 2))) : (namesF A lvl q).length ≤ A.length := Nat.le_trans (List.length_filter_le _ _) (cntA_le A lvl)
set_option maxRecDepth 20000 in
set_option maxHeartbeats 4000000 in
theorem answers_any (F Fq : Nat → Prop) (w : World) (a m lvl : Nat) (T : Int) (A : List (List (El 3))) (q : List (El 3)) (v : Value) (h : ProA w F 1 a m T A) (hG : Good (n := 1) A) (hlv : lvl < 4) (hq : Rd w Fq 3 v q) (hQ : GoodQ (n := 1) q) (hgood : ∀ s, (∃ l ∈ A, nm lvl l = s) → GoodG (gS (n := 1) A lvl s)) (hok : ∀ s, (∃ l ∈ A, nm lvl l = s) → errS 3 0 (q.map (ansE (gS (n := 1) A lvl s))) = 0) (hF : ∀ j, F j → j < w.heap.size) (hV : NamesV w) (hL : LevelsV w) (hC : CountsV w) (hv : Vars w) :
    Calls Tryz.prog 62 #[ptr a, v, .int .i64 lvl] w fun e w' => ∃ v', e = .returned v' ∧ Below w.heap.size w w' ∧ w'.ownsRow w.heap.size 9 1 v' (ansL (n := 1) A lvl q).length ((ansL (n := 1) A lvl q).map (fun s => .string (bs s))) := by
  obtain ⟨ad, cap, rfl⟩ := hq.slice
  obtain ⟨i0, hi0, hz0, hz1, hz2⟩ := info_parts info_str
  obtain ⟨f, pd, hArc, hK, hmono⟩ := h.arcD hG
  have hmm := @run_makeMap Tryz.prog
  have u0 := Below.alloc (Below.refl w.heap.size w) (Nat.le_refl _) (.map #[] 0)
  have HM0 := hid (MapF.made w Tryz.prog 9)
  have HA := hid hArc
  have HK := hid hK
  have HMO := hid hmono
  have HQ := hid hq
  have HQG := hid hQ
  have HGd := hid hgood
  have HOK := hid hok
  have HI := hid hi0
  have HG := hid hG
  have HF := hid hF
  have HV := hid hV
  have HL := hid hL
  have HC := hid hC
  have VV := hid hv
  obtain ⟨q1, q2, q3⟩ := hArc.up u0
  have C1 := hid (on2_any 1 F _ a m lvl T A f pd q1 q2 q3 hK hG hlv (hV.up u0))
  have U0 := hid u0
  clear h hArc hK hmono hq hQ hgood hok hG hF hV hL hC hv q1 q2 q3 u0 hi0
  go_enter Tryz.func62, Tryz.ntmps62
  go_wp2_with fail
  go_at_call 104
  refine C1.out.mono ?_
  rintro e w1 ⟨u1, nb, B0, xs, f2, vs, rfl, hnb, hB0, hp, hGr⟩
  rw [World.size_alloc] at hnb u1
  have U1 := hid (U0.out.trans (u1.mono (by simp)))
  have M1 := hid (HM0.out.kept (u1.block _ (by simp)))
  have HP := hid hp
  have HGr := hid hGr
  have hxl : xs.length ≤ 48 := by
    have := hp.length_eq
    rw [List.length_map] at this
    rw [this]; exact HG.out.1
  have hNm := hid (fun s => show (f2 (keyS s)).isSome = true ↔ ∃ l ∈ A, nm lvl l = s from by
    have h1 := hGr.keys hp (keyS s)
    rw [← h1, List.mem_map]
    constructor
    · rintro ⟨t, ht, e⟩
      obtain rfl : t = s := by injection e
      rcases (seenA_mem lvl t A []).1 ht with h | h
      · cases h
      · exact h
    · intro h
      exact ⟨s, (seenA_mem lvl s A []).2 (Or.inr h), rfl⟩)
  clear hGr hp u1 C1 HM0
  go_wp2_with (at_range; refine wpList_range_F rfl _ 136 rfl 9 144 (Maps.string_keyed Tryz.underlying9) Tryz.underlying136 nb xs.length f2 rfl HGr.out.1 ?_)
  intro w2 cnt0 hr0 hg0 hs0
  have hUB0 := hid (show UpB w.heap.size w1 w2 from (UpB.refl _ _).grown hg0 (fun k e => by cases e))
  have HR0 := hid hr0
  have hM2 := M1.out.kept (hg0.block _ M1.out.lt (by simp))
  have hAV := hid (fun j (hj : F j) => show ¬ (j = w.heap.size ∨ j = w1.heap.size) from by have h1 := HF.out j hj; have h2 := U1.out.size; omega)
  have HF0 : Hid (FoundI (n := 1) w2 F (fun j => j = w.heap.size ∨ j = w1.heap.size) w.heap.size A lvl q (fun s => (∃ l ∈ A, nm lvl l = s) ∧ (f2 (keyS s)).isSome = false) 0) := ⟨_, fun _ => 0, hM2, fun s hs => absurd ((hNm.out s).2 hs.1) (by rw [hs.2]; decide), fun _ _ => rfl, fun k hk => by cases hk⟩
  clear hr0 hg0 hM2
  go_wp2_with fail
  go_loopw [10] (fun _ wr => ∃ (left : Lit → Bool) (cnt kk : Nat), kk + cnt ≤ xs.length ∧ Hid (RanF wr Tryz.prog 9 nb w1.heap.size xs.length f2 left cnt) ∧ Hid (UpB w.heap.size w1 wr) ∧ Hid (FoundI (n := 1) wr F (fun j => j = w.heap.size ∨ j = w1.heap.size) w.heap.size A lvl q (fun s => (∃ l ∈ A, nm lvl l = s) ∧ left (keyS s) = false) kk)) (fun _ wr => wr.rangeLeft nb w1.heap.size)
  case atStart => exact ⟨_, cnt0, 0, by have := HR0.out.le; omega, HR0, hUB0, HF0⟩
  case round =>
    obtain ⟨left, cnt, kk, hkk, hR, hUB, hFo⟩ := hrel
    have hB := hid (U1.out.trans (hUB.out.below (Nat.le_refl _) U1.out.size))
    go_wp2_with (at_next; refine wpList_next_F rfl _ rfl 9 (Maps.string_keyed Tryz.underlying9) Tryz.underlying9 nb w1.heap.size xs.length f2 left cnt rfl hR.out ?_ ?_)
    · intro _ hl0
      have hFd := hid (hFo.out.cast (done' := fun s => ∃ l ∈ A, nm lvl l = s) (fun s _ => ⟨fun h => h.1, fun h => ⟨h, hl0 _⟩⟩) (Nat.le_refl _))
      clear hFo hR
      obtain ⟨ff, cs, hM, g2, g3, g4⟩ := id hFd.out
      have hmem : ∀ x, x ∈ namesF (n := 1) A lvl q ↔ (ff (keyS x)).isSome = true := fun x => by
        rw [namesF_mem]
        constructor
        · rintro ⟨h1, h2⟩
          rw [(g2 x h1 h2).1]; rfl
        · intro h
          by_cases hc : (∃ l ∈ A, nm lvl l = x) ∧ fitN (n := 1) A lvl q x = true
          · exact hc
          · rw [g3 x hc] at h; cases h
      have hnl : (namesF (n := 1) A lvl q).length ≤ 48 := Nat.le_trans (namesF_len (n := 1) A lvl q) HG.out.1
      have C5 := hid (sortedKeys_any wr w.heap.size kk ff (namesF (n := 1) A lvl q) hM (by omega) (namesF_nodup (n := 1) A lvl q) hmem g4)
      have HM := hid hM
      have G2 := hid g2
      have hLs := hid (show ∀ s ∈ (namesF (n := 1) A lvl q).mergeSort Go.leB, (∃ l ∈ A, nm lvl l = s) ∧ fitN (n := 1) A lvl q s = true from fun s hs => namesF_mem.1 (List.mem_mergeSort.1 hs))
      have hLl := hid (show ((namesF (n := 1) A lvl q).mergeSort Go.leB).length = (namesF (n := 1) A lvl q).length from List.length_mergeSort _)
      have hAns := hid (show ansL (n := 1) A lvl q = ((namesF (n := 1) A lvl q).mergeSort Go.leB).map (fun s => ansB (gS (n := 1) A lvl s) q) from rfl)
      clear hM g2 g3 g4 hmem hFd
      generalize (namesF (n := 1) A lvl q).length = nl at *
      generalize (namesF (n := 1) A lvl q).mergeSort Go.leB = L at *
      go_wp2_with fail
      go_at_call 115
      refine (mapsKeys_any _ _).mono ?_
      rintro e w4 ⟨rfl, rfl⟩
      go_wp2_with fail
      go_at_call 114
      refine C5.out.mono ?_
      rintro e w5 ⟨v5, rfl, hrow, hB5⟩
      obtain ⟨ad5, cap5, rfl⟩ := row_sl hrow
      have B5 := hid (Below.trans (Below.alloc hB.out hB.out.size (.cells #[.map (some w.heap.size)] 143)) (hB5.mono (by have := hB.out.size; omega)))
      have u5 : Below wr.heap.size wr w5 := (Below.alloc (Below.refl _ _) (Nat.le_refl _) (.cells #[.map (some w.heap.size)] 143)).trans (hB5.mono (by omega))
      have HM5 := hid (HM.out.kept (u5.block _ HM.out.lt))
      have G5 := hid (fun s (hs : ∃ l ∈ A, nm lvl l = s) (hf : fitN (n := 1) A lvl q s = true) => And.intro (G2.out s hs hf).1 ((G2.out s hs hf).2.2.up u5))
      have HROW := hid hrow
      have hLn : L.length = nl := hLl.out
      clear hrow hB5 u5 HM G2 C5 hLl hUB hl0 hkk
      subst hLn
      go_wp2_with fail
      go_loopw [11, 38] (fun o i wq => ∃ k : Nat, k ≤ L.length ∧ i = .int .i64 k ∧ Hid (wq.ownsRow w5.heap.size 9 1 o k ((L.take k).map (fun s => .string (bs (ansB (gS (n := 1) A lvl s) q))))) ∧ Hid (Below w5.heap.size w5 wq)) (fun _ i _ => L.length - (intOf i).toNat)
      case atStart => exact ⟨0, by omega, rfl, World.ownsRow_nil _ _ _ _, Below.refl _ _⟩
      case round =>
        obtain ⟨k, hk, rfl, hown, hU⟩ := hrel
        by_cases hkl : k < L.length
        · have hrow6 := ownsRow_keep HROW.out (w' := wr) (fun j hj => hU.out.block j (ownsRow_lt HROW.out j hj))
          obtain ⟨g, cap6, hv6, hcell⟩ : ∃ g cap6, (Value.slice ad5 L.length cap5 = .slice (some ⟨g, 0, none⟩) L.length cap6) ∧ wr.cell? ⟨g, k, none⟩ = some (.string (bs L[k])) := by
            rcases id hrow6.2 with ⟨_, h1⟩ | ⟨g, cap6, cur, e, _⟩
            · omega
            · rw [e] at hrow6
              refine ⟨g, cap6, e, ?_⟩
              have := hrow6.cellAt k (by simpa using hkl)
              rw [this]
              simp [hkl]
          obtain ⟨rfl, _, rfl⟩ := Value.slice.inj hv6
          have hmL := hid (hLs.out _ (List.getElem_mem hkl))
          have hst := hid (show (L.take (k + 1)).map (fun s => Value.string (bs (ansB (gS (n := 1) A lvl s) q))) = (L.take k).map (fun s => .string (bs (ansB (gS (n := 1) A lvl s) q))) ++ [.string (bs (ansB (gS (n := 1) A lvl L[k]) q))] by rw [List.take_succ_eq_append_getElem hkl, List.map_append]; rfl)
          clear hv6 hrow6
          generalize L[k] = s at hcell hmL hst
          obtain ⟨hff, hDs⟩ := G5.out s hmL.out.1 hmL.out.2
          have hsl : s.length ≤ 64 := by obtain ⟨l, hl, rfl⟩ := hmL.out.1; exact nm_short (n := 2) (HG.out.2.2 l hl).1 lvl
          have hlk : (Instr.lookup 143 (.map (some w.heap.size)) (.string (bs s)) false).run Tryz.prog wr = .ok (.map (some (cs s))) wr := by
            have := (HM5.out.kept (hU.out.block _ HM5.out.lt)).look1 (Maps.string_keyed Tryz.underlying9) Tryz.underlying143 (Tryz.zeroValue127 _) (key := .string (bs s)) (kl := keyS s) (WideMaps.keyOf_string_mk Tryz.underlying9 (by rw [bs_size]; unfold maxLen; omega))
            rw [hff] at this
            exact this
          have B6 := hid (B5.out.trans (hU.out.mono B5.out.size))
          have C6 := hid (danswer_any Fq F wr (cs s) 28 (gS (n := 1) A lvl s) _ q (hDs.up hU.out) (HQ.out.up B6.out) HQG.out (HOK.out s hmL.out.1) (fun j hj => Nat.lt_of_lt_of_le (HF.out j hj) B6.out.size))
          have hown2 := hown
          clear hff hDs hown
          go_wp2_with fail
          go_at_call 116
          refine C6.out.mono ?_
          rintro e w7 ⟨rfl, u7⟩
          have O7 := hid (ownsRow_keep hown2.out (w' := w7) (fun j hj => u7.block j (ownsRow_lt hown2.out j hj)))
          have U7 := hid (hU.out.trans (u7.mono hU.out.size))
          clear u7 C6 hown2 hlk
          generalize ansB (gS (n := 1) A lvl s) q = ab at hst ⊢
          go_wp2_with (at_builtin; refine wpList_append_own _ rfl _ _ 70 rfl w5.heap.size 9 i0 (.string ByteArray.empty) 1 16 Tryz.underlying70 HI.out hz0 hz1 hz2 rfl (by decide) _ _ _ rfl (O7.out.alloc _) ⟨w7.heap.size, 0, none⟩ 1 1 [.string (bs ab)] rfl rfl (one_at _ _ _) (by intro u hu; simp at hu; subst hu; rfl) (by unfold maxLen; omega) (by omega) (by have := U7.out.size; simp; omega) ?_)
          intro v' w8 hown' hg hne
          have U8 := hid (up_grow U7.out O7.out _ hg)
          have O8 := hid hown'
          clear hown' hg
          go_wp2
          go_roundw
          case rel => exact ⟨k + 1, by omega, by go_num, by have := O8.out; (try rw [← List.map_take] at this); unfold Hid; rw [hst.out]; exact this, U8⟩
          case measure => simp [intOf]; omega
        · obtain rfl : k = L.length := by omega
          have hO := hid hown.out
          clear hown
          go_wp2
          go_ret
          refine ⟨_, rfl, B5.out.trans (hU.out.mono B5.out.size), ?_⟩
          rw [hAns.out, List.length_map, List.map_map]
          have := ownsRow_ge hO.out (base' := w.heap.size) B5.out.size
          rw [List.take_of_length_le (Nat.le_refl _)] at this
          exact this
    · intro x c w3 cnt2 hx hlx hfx hr2 hlt hg2 hs2 hen
      obtain ⟨s, rfl⟩ : ∃ s : By, x = bs s := ⟨x.data.toList, rfl⟩
      rw [bs_list] at hlx hfx hr2
      have hne : grp lvl s xs ≠ [] := fun e => by
        have := HGr.out.2.1 s e
        rw [show keyS s = Lit.string s from rfl, hfx] at this
        cases this
      obtain ⟨hf2, hrow⟩ := HGr.out.2.2.1 s hne
      have ec : c = vs s := Option.some.inj (hfx.symm.trans hf2)
      subst ec
      have hU2 := hid (hUB.out.grown hg2 (fun k e => by cases e; exact Or.inr (Nat.le_refl _)))
      have B2 := hid (U1.out.trans (hU2.out.below (Nat.le_refl _) U1.out.size))
      have hbl : ∀ j ∈ (vs s).ownBlock.toList, B0 ≤ j ∧ j < w1.heap.size := fun j hj => ⟨(hrow.lt j (by simpa using hj)).1, ownsRow_lt hrow j hj⟩
      have hrow3 := ownsRow_keep hrow (w' := w3) (fun j hj => hU2.out.block (hbl j hj).2 (by have := (hbl j hj).1; omega))
      have hr1 : w1.heap.size < wr.heap.size := by obtain ⟨o, ho, _⟩ := hR.out.walk; exact (Array.getElem?_eq_some_iff.1 ho).1
      have hfb1 := M1.out.lt
      have hw3 : w1.heap.size < w3.heap.size := by rw [hs2]; exact hr1
      have hne1 : some w.heap.size ≠ some w1.heap.size := fun e => by injection e with e; omega
      have F3 := hid (hFo.out.keep (w' := w3) (hg2.block _ (by omega) hne1) hAV.out (fun j hj hl => hg2.block j hl (fun e => hj (Or.inr (by injection e)))))
      have hnm : ∃ l ∈ A, nm lvl l = s := (hNm.out s).1 (by rw [show keyS s = Lit.string s from rfl, hfx]; rfl)
      have hglen : 0 < (grp lvl s xs).length ∧ (grp lvl s xs).length ≤ 48 := by
        refine ⟨List.length_pos_iff.2 hne, ?_⟩
        have e1 := (grp_perm HP.out lvl s).length_eq
        rw [List.length_map] at e1
        rw [e1]
        exact Nat.le_trans (List.length_filter_le _ _) HG.out.1
      have hsl : s.length ≤ 64 := by obtain ⟨l, hl, rfl⟩ := hnm; exact nm_short (n := 2) (HG.out.2.2 l hl).1 lvl
      have C2 := hid (tell_any 1 F w3 a m lvl B0 T A f pd (vs s) (grp lvl s xs) (HA.out.up B2.out) HK.out HG.out hlv hrow3 hglen.1 hglen.2 (HV.out.up B2.out) (HL.out.up B2.out) (HC.out.up B2.out) (fun j hj => Nat.lt_of_lt_of_le (HF.out j hj) B2.out.size))
      obtain ⟨ad4, cap4, hvs⟩ := row_sl hrow
      rw [hvs] at hen C2 ⊢
      have HR2 := hid hr2
      have HLT := hid hlt
      have HNM := hid hnm
      have hLx := hid (fun t : By => show (left (keyS t) && !(keyS t).sameKey (Lit.string s)) = false ↔ (left (keyS t) = false ∨ t = s) from by
        rw [Bool.and_eq_false_iff]
        have hK : (keyS t).sameKey (Lit.string s) = true ↔ t = s := by
          rw [same_iff (show WideAt.IsKeyLit (Lit.string s) from trivial)]
          exact ⟨fun e => by injection e, fun e => by rw [e]⟩
        constructor
        · rintro (h | h)
          · exact Or.inl h
          · exact Or.inr (hK.1 (by simpa using h))
        · rintro (h | h)
          · exact Or.inl h
          · exact Or.inr (by rw [hK.2 h]; rfl))
      clear hr2 hg2 hs2 hfx hf2 hrow hbl hrow3 hlt hnm hFo hvs hne
      go_wp2_with fail
      go_at_call 112
      refine C2.out.mono ?_
      rintro e w4 ⟨c, y, hy, rfl, hc, u4, hD4⟩
      have D4 := hid (show DMk w4 F 2 c 28 (gS (n := 1) A lvl s) from by unfold gS; rw [lastA_of HP.out HMO.out hy]; exact hD4)
      have B4 := hid (B2.out.trans (u4.mono B2.out.size))
      have C3 := hid (dfits_any 1 Fq F w4 c 28 (gS (n := 1) A lvl s) _ q D4.out (HQ.out.up B4.out) (HGd.out s HNM.out) HQG.out (VV.out.up B4.out))
      have R4 := hid (HR2.out.up u4)
      have F4 := hid (F3.out.up hAV.out u4)
      have UB4 := hid (hU2.out.trans (UpB.of_below u4))
      clear hy u4 hD4 C2 F3
      go_wp2_with fail
      go_at_call 113
      refine C3.out.mono ?_
      rintro e w5 ⟨rfl, u5⟩
      have D5 := hid (D4.out.up u5)
      have R5 := hid (R4.out.up u5)
      have F5 := hid (F4.out.up hAV.out u5)
      have UB5 := hid (UB4.out.trans (UpB.of_below u5))
      have hfit := hid (show fitD (gS (n := 1) A lvl s) q = fitN (n := 1) A lvl q s from rfl)
      rw [hfit.out]
      clear u5 C3 D4 R4 F4 UB4
      cases hb : fitN (n := 1) A lvl q s
      · have HB := hid hb
        have F6 : Hid (FoundI (n := 1) w5 F (fun j => j = w.heap.size ∨ j = w1.heap.size) w.heap.size A lvl q (fun t => (∃ l ∈ A, nm lvl l = t) ∧ (left (keyS t) && !(keyS t).sameKey (Lit.string s)) = false) kk) := F5.out.cast (fun t ht => by
          rw [hLx.out t]
          constructor
          · rintro ⟨h1, h2⟩; exact ⟨h1, Or.inl h2⟩
          · rintro ⟨h1, h2 | h2⟩
            · exact ⟨h1, h2⟩
            · rw [h2, HB.out] at ht; cases ht) (Nat.le_refl _)
        clear hb
        go_wp2
        go_roundw
        case rel => exact ⟨_, cnt2, kk, by have := HLT.out; omega, R5, UB5, F6⟩
        case measure => rw [R5.out.left_eq, hR.out.left_eq]; exact HLT.out
      · have HB := hid hb
        clear hb
        obtain ⟨ff, cs, g1, g2, g3, g4⟩ := id F5.out
        have hcz : ¬ (c = w.heap.size ∨ c = w1.heap.size) := by omega
        go_wp2_with (at_mapUpdate; refine wpList_update_F rfl _ _ _ 143 rfl 9 127 (Maps.string_keyed Tryz.underlying9) Tryz.underlying143 w.heap.size kk ff rfl g1 (by unfold maxLen; omega) _ _ (keyS s) rfl rfl (WideMaps.keyOf_string_mk Tryz.underlying9 (by rw [bs_size]; unfold maxLen; omega)) trivial ?_)
        intro w6 hM6 hg6
        have F6 : Hid (FoundI (n := 1) w6 F (fun j => j = w.heap.size ∨ j = w1.heap.size) w.heap.size A lvl q (fun t => (∃ l ∈ A, nm lvl l = t) ∧ (left (keyS t) && !(keyS t).sameKey (Lit.string s)) = false) (kk + 1)) := (FoundI.put g2 g3 g4 hM6 hg6 hAV.out (Or.inl rfl) hcz D5.out HB.out).cast (fun t ht => by
          rw [hLx.out t]
          constructor
          · rintro (⟨h1, h2⟩ | h)
            · exact ⟨h1, Or.inl h2⟩
            · exact ⟨h ▸ HNM.out, Or.inr h⟩
          · rintro ⟨h1, h2 | h2⟩
            · exact Or.inl ⟨h1, h2⟩
            · exact Or.inr h2) (Nat.le_refl _)
        have R6 := hid (R5.out.but (grownBy_but hg6) (by omega) (by omega))
        have UB6 := hid (UB5.out.grown1 hg6)
        clear g1 g2 g3 g4 hM6 hg6 F5
        go_wp2
        go_roundw
        case rel => exact ⟨_, cnt2, kk + 1, by have := HLT.out; omega, R6, UB6, F6⟩
        case measure => rw [R6.out.left_eq, hR.out.left_eq]; exact HLT.out
end Go.Proofs.YtaokifbpakbgdaaGreatDoor

/- What is told of something can be written as a data set; what keys are that may be asked (no program). -/
namespace Go.Proofs.YtaokifbpakbgdaaGreatDoor

theorem errE_make {n : Nat} {g : Its n → Int} {d : Nat} {b : Int} {x : El (n + 1)} (h1 : isK x.2.1 = true) (h2 : 0 ≤ x.1) (h3 : x.1 ≤ 4294967295) (h4 : x.1 / 65536 ≠ 65534) (h5 : b < x.1) (h6 : x.2.2.1.length ≤ 64)
    (h7 : x.2.2.1.getLast? ≠ some (padB x.2.1)) (h8 : x.2.1 = SQ → x.2.2.1 = []) (h9 : x.2.1 ≠ SQ → x.2.2.2 = []) (h10 : x.2.2.2.length ≤ 8) (h11 : x.2.1 = SQ → d < 2) (h12 : g x.2.2.2 = 0) : errE g d b x = 0 := by
  unfold errE
  rw [if_neg (by simp [h1]), if_neg (by omega), if_neg (by rintro (h | h); (· omega); exact h7 h), if_neg (by rintro (⟨h, h'⟩ | ⟨h, h'⟩); (· exact h' (h8 h)); exact h' (h9 h)), if_neg (by omega), if_neg (by rintro ⟨h, h'⟩; have := h11 h; omega)]
  exact h12
theorem errI_make {α : Type} {f : List α → Int} : ∀ {l : List (List α)}, (∀ s ∈ l, f s = 0) → errI f l = 0
  | [], _ => rfl
  | t :: l, h => by
    rw [errI, if_pos (h t List.mem_cons_self)]
    exact errI_make (fun s hs => h s (List.mem_cons_of_mem _ hs))
/-- What an element of a kind may have. -/
def OkV (k v : By) (its : Its 2) : Prop := v.length ≤ 64 ∧ v.getLast? ≠ some (padB k) ∧ (k = SQ → v = []) ∧ (k ≠ SQ → its = []) ∧ its.length ≤ 8 ∧ ∀ s ∈ its, errS 2 1 s = 0
theorem OkV.nil (k : By) : OkV k [] [] := ⟨by decide, by simp, fun _ => rfl, fun _ => rfl, by decide, fun s hs => by simp at hs⟩
theorem errL_ans (g : Int → Option (El 3)) : ∀ {q : List (El 3)} {b : Int}, errL (errE (errI (errS 2 1)) 0) (fun x => x.1) b q = 0 → (∀ x ∈ q, OkV x.2.1 (valG g x.1) (itsG g x.1)) → errL (errE (errI (errS 2 1)) 0) (fun x => x.1) b (q.map (ansE (n := 1) g)) = 0
  | [], _, _, _ => rfl
  | x :: q, b, h, ho => by
    rw [errL] at h
    by_cases he : errE (errI (errS 2 1)) 0 b x = 0
    · rw [if_pos he] at h
      obtain ⟨p1, p2, p3, p4, p5, _⟩ := errE_ok he
      obtain ⟨o1, o2, o3, o4, o5, o6⟩ := ho x List.mem_cons_self
      rw [List.map_cons, errL, if_pos]
      · exact errL_ans g h (fun y hy => ho y (List.mem_cons_of_mem _ hy))
      · exact errE_make (x := ansE (n := 1) g x) p1 p2 p3 p4 p5 o1 o2 o3 o4 o5 (fun _ => by decide) (errI_make o6)
    · rw [if_neg he] at h; exact absurd h he
theorem errS_ans {g : Int → Option (El 3)} {q : List (El 3)} (h : errS 3 0 q = 0) (ho : ∀ x ∈ q, OkV x.2.1 (valG g x.1) (itsG g x.1)) : errS 3 0 (q.map (ansE (n := 1) g)) = 0 := by
  rw [errS] at h ⊢
  by_cases h1 : 24 < q.length
  · rw [if_pos h1] at h; cases h
  rw [if_neg h1] at h
  rw [List.length_map, if_neg h1]
  exact errL_ans g h ho
theorem errL_lower {n : Nat} {g : Its n → Int} {d : Nat} {b b' : Int} (hb : b' ≤ b) : ∀ {l : List (El (n + 1))}, errL (errE g d) (fun x => x.1) b l = 0 → errL (errE g d) (fun x => x.1) b' l = 0
  | [], _ => rfl
  | x :: l, h => by
    rw [errL] at h
    by_cases he : errE g d b x = 0
    · rw [if_pos he] at h
      obtain ⟨p1, p2, p3, p4, p5, p6, p7, p8, p9, p10, p11, p12⟩ := errE_ok he
      rw [errL, if_pos (errE_make p1 p2 p3 p4 (by omega) p6 p7 p8 p9 p10 p11 p12)]
      exact h
    · rw [if_neg he] at h; exact absurd h he
theorem errL_filter {n : Nat} {g : Its n → Int} {d : Nat} (p : El (n + 1) → Bool) : ∀ {l : List (El (n + 1))} {b : Int}, errL (errE g d) (fun x => x.1) b l = 0 → errL (errE g d) (fun x => x.1) b (l.filter p) = 0
  | [], _, _ => rfl
  | x :: l, b, h => by
    rw [errL] at h
    by_cases he : errE g d b x = 0
    · rw [if_pos he] at h
      have ih := errL_filter p h
      by_cases hp : p x = true
      · rw [List.filter_cons_of_pos hp, errL, if_pos he]
        exact ih
      · rw [List.filter_cons_of_neg hp]
        obtain ⟨_, _, _, _, p5, _⟩ := errE_ok he
        exact errL_lower (by omega) ih
    · rw [if_neg he] at h; exact absurd h he
theorem errS_words {n d : Nat} {l : List (El (n + 1))} (h : errS (n + 1) d l = 0) : errS (n + 1) d (wordsL l) = 0 := by
  rw [errS] at h ⊢
  by_cases h1 : 24 < l.length
  · rw [if_pos h1] at h; cases h
  rw [if_neg h1] at h
  rw [if_neg (by have := List.length_filter_le (fun x : El (n + 1) => isWord x.1) l; unfold wordsL; omega)]
  exact errL_filter _ h
theorem dec_two {u : Nat} (h : u < 100) : Lib.decDigits u = if u < 10 then [UInt8.ofNat (48 + u)] else [UInt8.ofNat (48 + u / 10), UInt8.ofNat (48 + u % 10)] := by
  rw [Lib.decDigits]
  by_cases h1 : u < 10
  · rw [dif_pos h1, if_pos h1]
  · rw [dif_neg h1, if_neg h1, Lib.decDigits, dif_pos (by omega)]
    rfl
theorem dec_ok {u : Nat} (h : u < 100) : OkV [73, 83] (Lib.decDigits u) [] := by
  have hl : (Lib.decDigits u).length ≤ 2 ∧ ∃ k, k < 10 ∧ (Lib.decDigits u).getLast? = some (UInt8.ofNat (48 + k)) := by
    rw [dec_two h]
    by_cases h1 : u < 10
    · rw [if_pos h1]; exact ⟨by simp, u, h1, rfl⟩
    · rw [if_neg h1]; exact ⟨by simp, u % 10, by omega, rfl⟩
  obtain ⟨h1, k, hk, h2⟩ := hl
  refine ⟨by omega, fun e => ?_, fun e => (by cases e), fun _ => rfl, by decide, fun s hs => by simp at hs⟩
  rw [h2] at e
  have e2 : UInt8.ofNat (48 + k) = padB [73, 83] := Option.some.inj e
  have : ∀ k : Nat, k < 10 → UInt8.ofNat (48 + k) ≠ padB [73, 83] := by decide
  exact this k hk e2
theorem word_ok {lvl : Nat} : OkV [67, 83] (wordL lvl) [] := by
  have : wordL lvl = wordL 0 ∨ wordL lvl = wordL 1 ∨ wordL lvl = wordL 2 ∨ wordL lvl = wordL 3 := by
    unfold wordL
    by_cases h0 : lvl = 0
    · simp [h0]
    by_cases h1 : lvl = 1
    · simp [h1]
    by_cases h2 : lvl = 2
    · simp [h2]
    · simp [h0, h1, h2]
  rcases this with e | e | e | e <;> rw [e] <;> exact ⟨by decide, by decide, fun h => (by cases h), fun _ => rfl, by decide, fun s hs => by simp at hs⟩
theorem desc_ok {l : List (El 3)} (h1 : errS 3 0 l = 0) (h2 : desE (n := 1) l = 0) (t : Int) : OkV (kindT t) (valG (descG (n := 1) l) t) (itsG (descG (n := 1) l) t) := by
  unfold valG itsG descG
  by_cases hk : isKept t = true
  · rw [if_pos hk]
    cases hf : findE l t with
    | none => exact OkV.nil _
    | some e =>
      have hm : e ∈ l := List.mem_of_find?_eq_some hf
      have ht : e.1 = t := by have := List.find?_some hf; simpa using this
      have hkt : kindT t ≠ [] := by
        unfold isKept at hk
        split at hk
        · cases hk
        · simpa using hk
      have hb : l.any bad1 = false := by
        cases hb : l.any bad1 with
        | false => rfl
        | true => unfold desE at h2; rw [if_pos hb] at h2; cases h2
      have hbe := List.any_eq_false.1 hb e hm
      have hkd : e.2.1 = kindT t := by
        apply Decidable.byContradiction
        intro hc
        apply hbe
        unfold bad1
        rw [ht, decide_eq_true hkt, decide_eq_true hc]
        rfl
      rw [errS] at h1
      by_cases h24 : 24 < l.length
      · rw [if_pos h24] at h1; cases h1
      rw [if_neg h24] at h1
      obtain ⟨b, he⟩ := errL_mem h1 e hm
      obtain ⟨p1, p2, p3, p4, p5, p6, p7, p8, p9, p10, p11, p12⟩ := errE_ok he
      rw [hkd] at p7 p8 p9
      refine ⟨p6, p7, p8, fun hq => ?_, ?_, fun s hs => ?_⟩
      · show e.2.2.2.map wordsL = []
        rw [p9 hq]; rfl
      · show (e.2.2.2.map wordsL).length ≤ 8
        rw [List.length_map]; exact p10
      · have hs2 : s ∈ e.2.2.2.map wordsL := hs
        obtain ⟨r, hr, rfl⟩ := List.mem_map.1 hs2
        exact errS_words (errI_mem p12 r hr)
  · rw [if_neg hk]; exact OkV.nil _
theorem tell_ok {A : List (List (El 3))} (hA : A.length ≤ 48) {lvl : Nat} {l : List (El 3)} (h1 : errS 3 0 l = 0) (h2 : desE (n := 1) l = 0) (t : Int) : OkV (kindT t) (valG (tellN (n := 1) A lvl l 3) t) (itsG (tellN (n := 1) A lvl l 3) t) := by
  have hc : ∀ i s, cntB (n := 2) A i s < 100 := fun i s => Nat.lt_of_le_of_lt (cntB_le A i s) (by omega)
  by_cases e2 : t = 2101769
  · subst e2
    show OkV [73, 83] (Lib.decDigits (cntB A 2 (nm 2 l))) []
    exact dec_ok (hc _ _)
  by_cases e1 : t = 2101766
  · subst e1
    show OkV [73, 83] (Lib.decDigits (cntB A 1 (nm 1 l))) []
    exact dec_ok (hc _ _)
  by_cases e0 : t = 2101760
  · subst e0
    show OkV [73, 83] (Lib.decDigits (cntB A 0 (nm 0 l))) []
    exact dec_ok (hc _ _)
  by_cases e3 : t = 524370
  · subst e3
    show OkV [67, 83] (wordL lvl) []
    exact word_ok
  have : tellN (n := 1) A lvl l 3 t = descG (n := 1) l t := by
    simp only [tellN, updG, cntT]
    simp [e0, e1, e2, e3]
  have h3 := desc_ok h1 h2 t
  unfold valG itsG at h3 ⊢
  rw [this]
  exact h3
theorem lastA_mem {n : Nat} {A : List (List (El (n + 1)))} {lvl : Nat} {s : By} (h : ∃ l ∈ A, nm lvl l = s) : lastA A lvl s ∈ A ∧ nm lvl (lastA A lvl s) = s := by
  obtain ⟨l, hl, hs⟩ := h
  have hne : A.filter (fun o => nm lvl o == s) ≠ [] := fun e => by
    have : l ∈ A.filter (fun o => nm lvl o == s) := List.mem_filter.2 ⟨hl, by simpa using hs⟩
    rw [e] at this; simp at this
  have hm := List.getLast_mem hne
  unfold lastA
  rw [List.getLast?_eq_some_getLast hne]
  obtain ⟨h1, h2⟩ := List.mem_filter.1 hm
  exact ⟨h1, beq_iff_eq.1 h2⟩
theorem goodG_of {A : List (List (El 3))} (hG : Good (n := 1) A) {lvl : Nat} {s : By} (h : ∃ l ∈ A, nm lvl l = s) : GoodG (gS (n := 1) A lvl s) := fun t => by
  obtain ⟨hm, _⟩ := lastA_mem h
  obtain ⟨o1, _, _, _, o5, o6⟩ := tell_ok (lvl := lvl) hG.1 (hG.2.2 _ hm).1 (hG.2.2 _ hm).2 t
  refine ⟨o1, o5, fun r hr => ?_⟩
  obtain ⟨p1, _, p3⟩ := errS_props (n := 1) (o6 r hr)
  exact ⟨p1, fun y hy => (p3 y hy).2.2.1⟩
theorem ansOK_of {A : List (List (El 3))} (hG : Good (n := 1) A) {lvl : Nat} {s : By} (h : ∃ l ∈ A, nm lvl l = s) {q : List (El 3)} (hq : errS 3 0 q = 0) (hk : ∀ x ∈ q, x.2.1 = kindT x.1) : errS 3 0 (q.map (ansE (gS (n := 1) A lvl s))) = 0 :=
  errS_ans hq (fun x hx => by
    obtain ⟨hm, _⟩ := lastA_mem h
    rw [hk x hx]
    exact tell_ok (lvl := lvl) hG.1 (hG.2.2 _ hm).1 (hG.2.2 _ hm).2 x.1)
theorem ask_keys {lvl : Int} {q : List (El 3)} (h : askE (n := 1) lvl q = 0) : ∀ x ∈ q, keyE (n := 1) lvl x = 0 := by
  unfold askE at h
  by_cases h1 : lvl = -1
  · rw [if_pos h1] at h; cases h
  rw [if_neg h1] at h
  by_cases h2 : fstE (keyE (n := 1) lvl) q = 0
  · exact fstE_zero h2
  · rw [if_pos h2] at h; exact absurd h h2
theorem goodQ_of {lvl : Int} {q : List (El 3)} (h : errS 3 0 q = 0) (ha : askE (n := 1) lvl q = 0) : GoodQ (n := 1) q := by
  obtain ⟨h1, _, h2⟩ := errS_props (n := 2) h
  refine ⟨h1, fun x hx => ?_⟩
  obtain ⟨_, p2, p3, p4, _, p6, p7⟩ := h2 x hx
  refine ⟨p2, p3, p6, fun a hai => ?_⟩
  obtain ⟨q1, _, q3⟩ := errS_props (n := 1) (p7 a hai)
  refine ⟨q1, fun y hy => ⟨?_, (q3 y hy).2.2.1⟩⟩
  have hk := ask_keys ha x hx
  have hkd := keyE_kind hk
  have hsq : x.2.1 = SQ := Decidable.byContradiction (fun hc => by rw [p4 hc] at hai; simp at hai)
  have ht : x.1 = 533016 := by
    rw [hsq] at hkd
    unfold kindT at hkd
    apply Decidable.byContradiction
    intro hc
    repeat' split at hkd
    all_goals first | (revert hkd; decide; done) | contradiction
  unfold keyE at hk
  by_cases hr : lvl < rowT x.1
  · rw [if_pos hr] at hk; cases hk
  rw [if_neg hr, if_pos ⟨ht, hsq⟩] at hk
  unfold askPE at hk
  by_cases hl : 1 < x.2.2.2.length
  · rw [if_pos hl] at hk; cases hk
  rw [if_neg hl] at hk
  have h3 := fstE_zero (fstE_zero hk a hai) y hy
  unfold kipE at h3
  by_cases hw : isWord y.1 = true
  · rw [if_pos hw] at h3
    unfold patE at h3
    by_cases hLO : y.2.1 = LO
    · rw [hLO]; decide
    · rw [if_pos hLO] at h3; cases h3
  · rw [if_neg hw] at h3; cases h3
end Go.Proofs.YtaokifbpakbgdaaGreatDoor

/- Package archive: Find. -/
namespace Go.Proofs.YtaokifbpakbgdaaGreatDoor
open Go.RowKit Go.Maps Go.Shelf Go.Sort

/-- What a query answers: an error, and the answers. -/
def fndE (s : By) : Int := if decE 3 s ≠ 0 then decE 3 s else match parse 3 s with
  | some q => askE (n := 1) (levO (n := 2) q) q
  | none => 1
def fndL (A : List (List (El 3))) (s : By) : List By := if decE 3 s ≠ 0 then [] else match parse 3 s with
  | some q => if askE (n := 1) (levO (n := 2) q) q ≠ 0 then [] else ansL (n := 1) A (levO (n := 2) q).toNat q
  | none => []
theorem lvI_range (m : Bool) (s : By) : ∀ r : List Nat, lvI m s r = -1 ∨ ∃ i ∈ r, lvI m s r = i
  | [] => Or.inl rfl
  | i :: r => by
    rw [lvI]
    by_cases h : m = true ∧ s = wordL i
    · rw [if_pos h]; exact Or.inr ⟨i, List.mem_cons_self, rfl⟩
    · rw [if_neg h]
      rcases lvI_range m s r with h | ⟨j, hj, e⟩
      · exact Or.inl h
      · exact Or.inr ⟨j, List.mem_cons_of_mem _ hj, e⟩
theorem levO_range {n : Nat} (q : List (El (n + 1))) : levO q = -1 ∨ ∃ i : Nat, i < 4 ∧ levO q = i := by
  unfold levO
  cases findE q 524370 with
  | none => exact Or.inl rfl
  | some x =>
    rcases lvI_range (decide (x.2.1 = [67, 83])) x.2.2.1 [0, 1, 2, 3] with h | ⟨i, hi, e⟩
    · exact Or.inl h
    · refine Or.inr ⟨i, ?_, e⟩
      simp only [List.mem_cons, List.not_mem_nil, or_false] at hi
      omega
/-- A list of strings that the call has laid. -/
def StrRow (base : Nat) (w : World) (v : Value) (L : List By) : Prop := w.ownsRow base 9 1 v L.length (L.map (fun s => .string (bs s)))
set_option maxRecDepth 20000 in
set_option maxHeartbeats 2000000 in
theorem Find_any (F : Nat → Prop) (w : World) (a m : Nat) (T : Int) (A : List (List (El 3))) (s : By) (h : ProA w F 1 a m T A) (hF : ∀ j, F j → j < w.heap.size) (hG : Good (n := 1) A) (hV : NamesV w) (hL : LevelsV w) (hC : CountsV w) (hv : Vars w) :
    Calls Tryz.prog 36 #[ptr a, .string (bs s)] w fun e w' => ∃ v, e = .returned (.tuple #[v, .int .i64 (fndE s)]) ∧ Below w.heap.size w w' ∧ StrRow w.heap.size w' v (fndL A s) := by
  have HA := hid h
  have HF := hid hF
  have HG := hid hG
  have HV := hid hV
  have HL := hid hL
  have HC := hid hC
  have VV := hid hv
  clear h hF hG hV hL hC hv
  go_enter Tryz.func36, Tryz.ntmps36
  go_wp2_with fail
  go_at_call 58
  refine (Decode_any w 3 (Nat.le_refl _) s).mono ?_
  rintro e w1 ⟨u1, ⟨hd, rfl⟩ | ⟨hd, q, v, bl, hp, hle, rfl, how, hbl⟩⟩
  · have U1 := hid u1
    have hE := hid (show fndE s = decE 3 s by rw [fndE, if_pos hd])
    have hA := hid (show fndL A s = [] by rw [fndL, if_pos hd])
    have hd2 : (decE 3 s != 0) = true := by simpa using hd
    have hd3 : (decE 3 s == 0) = false := by simpa using hd
    clear u1 hd
    generalize decE 3 s = ee at hE hd2 hd3
    go_wp2
    go_ret2
    refine ⟨_, by rw [hE.out]; rfl, U1.out, ?_⟩
    rw [hA.out]
    exact World.ownsRow_nil _ _ _ _
  have U1 := hid u1
  have hEr := hid hle
  have hQ := hid (show q.length ≤ 24 ∧ ∀ x ∈ q, x.2.2.1.length ≤ 64 ∧ x.2.2.2.length ≤ 8 ∧ ∀ s ∈ x.2.2.2, s.length ≤ 24 ∧ ∀ y ∈ s, y.2.2.1.length ≤ 64 from sane_of (n := 1) hle)
  have hE := hid (show fndE s = askE (n := 1) (levO (n := 2) q) q by rw [fndE, if_neg (fun h => h hd), hp])
  have hA := hid (show fndL A s = if askE (n := 1) (levO (n := 2) q) q ≠ 0 then [] else ansL (n := 1) A (levO (n := 2) q).toNat q by rw [fndL, if_neg (fun h => h hd), hp])
  have R1 := hid (how.rd _ _ _ _ (fun j => j ∈ bl) (fun j hj => hj))
  obtain ⟨ad, cap, rfl⟩ := R1.out.slice
  clear u1 hd hle hp how hbl
  go_wp2_with fail
  go_at_call 60
  refine (levelOf_any 2 (fun j => j ∈ bl) w1 _ q R1.out hQ.out.1 (HL.out.up U1.out)).mono ?_
  rintro e w2 ⟨rfl, u2⟩
  have U2 := hid (U1.out.trans (u2.mono U1.out.size))
  have R2 := hid (R1.out.up u2)
  have hrange := hid (levO_range (n := 2) q)
  clear u2 R1
  generalize levO (n := 2) q = lv at hE hA hrange ⊢
  go_wp2_with fail
  go_at_call 61
  refine (checkQuery_any 1 (fun j => j ∈ bl) w2 _ q lv R2.out hQ.out.1 hQ.out.2 (HV.out.up U2.out) (VV.out.up U2.out)).mono ?_
  rintro e w3 ⟨rfl, u3⟩
  have U3 := hid (U2.out.trans (u3.mono U2.out.size))
  have R3 := hid (R2.out.up u3)
  clear u3 R2
  by_cases hc : askE (n := 1) lv q = 0
  · have hA2 := hid (hA.out.trans (if_neg (fun h => h hc)))
    obtain ⟨i, hi, rfl⟩ : ∃ i : Nat, i < 4 ∧ lv = i := by
      rcases hrange.out with h | h
      · rw [h] at hc
        unfold askE at hc
        rw [if_pos rfl] at hc
        cases hc
      · exact h
    have hkk := hid (fun x hx => keyE_kind (n := 1) (ask_keys hc x hx))
    have hGQ := hid (goodQ_of hEr.out hc)
    have C := hid (answers_any F (fun j => j ∈ bl) w3 a m i T A q _ (HA.out.up U3.out) HG.out hi R3.out hGQ.out (fun s hs => goodG_of HG.out hs) (fun s hs => ansOK_of HG.out hs hEr.out hkk.out) (fun j hj => Nat.lt_of_lt_of_le (HF.out j hj) U3.out.size) (HV.out.up U3.out) (HL.out.up U3.out) (HC.out.up U3.out) (VV.out.up U3.out))
    rw [hc] at hE ⊢
    clear hc hA
    go_wp2_with fail
    go_at_call 62
    refine C.out.mono ?_
    rintro e w4 ⟨v4, rfl, u4, hrow⟩
    have U4 := hid (U3.out.trans (u4.mono U3.out.size))
    have HROW := hid hrow
    clear u4 hrow C
    go_wp2
    go_ret2
    refine ⟨_, by rw [hE.out]; rfl, U4.out, ?_⟩
    rw [hA2.out]
    exact ownsRow_ge HROW.out U3.out.size
  · have hA2 := hid (hA.out.trans (if_pos hc))
    have hc2 : (askE (n := 1) lv q == 0) = false := beq_eq_false_iff_ne.2 hc
    clear hc hA
    generalize askE (n := 1) lv q = ee at hE hc2 ⊢
    go_wp2
    go_ret2
    refine ⟨_, by rw [hE.out]; rfl, U3.out, ?_⟩
    rw [hA2.out]
    exact World.ownsRow_nil _ _ _ _
end Go.Proofs.YtaokifbpakbgdaaGreatDoor

/- Package folioref on archives: inserted. -/
namespace Go.Proofs.YtaokifbpakbgdaaGreatDoor
open Go.RowKit

abbrev stW (s : By) : Value := .string (bs s)
theorem str_at {w : World} {base : Nat} {v : Value} {L : List By} (h : w.ownsRow base 9 1 v L.length (L.map stW)) {k : Nat} (hk : k < L.length) : ∃ g cap, v = .slice (some ⟨g, 0, none⟩) L.length cap ∧ w.cell? ⟨g, k, none⟩ = some (.string (bs L[k])) := by
  rcases id h.2 with ⟨_, h1⟩ | ⟨g, cap, cur, e, _⟩
  · omega
  · subst e
    refine ⟨g, cap, rfl, ?_⟩
    rw [h.cellAt k (by simpa using hk)]
    simp [hk]
end Go.Proofs.YtaokifbpakbgdaaGreatDoor

/- What the document's archive answers to a query is what the program's answers (no program): keys, what something has, what fits. -/
namespace Go.Proofs.YtaokifbpakbgdaaGreatDoor

theorem lev_fit : ∀ i, i < 4 → matchV [67, 83] (wordL i) (wordL i) = true := by decide
theorem decB_dec {u : Nat} (h : u < 100) : decB u = Lib.decDigits u := by
  have hd : ∀ k, k < 10 → digB k = UInt8.ofNat (48 + k) := by decide
  rw [dec_two h]
  unfold decB
  by_cases h1 : u < 10
  · rw [if_pos h1, if_pos h1, hd u h1]
  · rw [if_neg h1, if_neg h1, hd (u / 10) (by omega)]
    have : digB u = digB (u % 10) := by unfold digB; rw [Nat.mod_mod]
    rw [this, hd (u % 10) (by omega)]
theorem tell_other {n : Nat} {A : List (List (El (n + 2)))} {lvl : Nat} {l : List (El (n + 2))} {t : Int} (h0 : t ≠ 2101760) (h1 : t ≠ 2101766) (h2 : t ≠ 2101769) (h3 : t ≠ 524370) : tellN A lvl l 3 t = descG l t := by
  simp only [tellN, updG, cntT]
  simp [h0, h1, h2, h3]
theorem desc_val {n : Nat} {l : List (El (n + 2))} {t : Int} (h : isKept t = true) : valG (descG l) t = textE l t ∧ itsG (descG l) t = (itemsE l t).map wordsL := by
  unfold valG itsG descG textE itemsE
  rw [if_pos h]
  cases findE l t with
  | none => exact ⟨rfl, rfl⟩
  | some x => exact ⟨rfl, rfl⟩
end Go.Proofs.YtaokifbpakbgdaaGreatDoor
