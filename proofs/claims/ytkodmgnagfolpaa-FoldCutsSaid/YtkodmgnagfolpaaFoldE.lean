/- Texts laid as one: Foldj, Foldk. -/
import Derived.Test.YtkodmgnagfolpaaFoldA
import Derived.Shelf.SlIterI.Nil
import Derived.Shelf.SlIterI.Sorted
import Derived.Shelf.SortM.Plain
import Derived.Shelf.SortM.SortNone
import Derived.Ground.GgzProg
import Derived.Ground.SlgmProg
import Derived.Shelf.SlGeneric
import Derived.Test.YtkodmgnagfolpaaFoldD
import Derived.Test.YtkodmgnagfolpaaConfM1
import Derived.Test.YtkodmgnagfolpaaHW

section
/- Package fold: the numbers of the shards, sorted. -/
namespace Go.Proofs.Ytkodmgnagfolpaa
set_option maxRecDepth 100000
open Go.RowKit Go.Maps Go.Sort Go.Shelf
set_option linter.unusedVariables false
set_option linter.unusedSimpArgs false

/-- Where the kit's bodies lie at this dump. -/
def keysA_ren : Go.Shelf.Ren := ⟨fun | 7 => 29 | 10 => 43 | n => n, fun | 23 => 57 | 26 => 3 | 3 => 42 | 28 => 73 | 0 => 0 | 27 => 72 | 33 => 65 | 4 => 4 | n => n, fun n => n⟩

theorem keysA : SlLaysZI.n7 Try.prog keysA_ren where
  mixed := by kernel_rfl
  f7 := ⟨"maps.Keys[map[int]notcher/fold.Shard,int,notcher/fold.Shard]", by decide, Try.func29.trans (congrArg some (by kernel_rfl))⟩
  f10 := ⟨"maps.Keys[map[int]notcher/fold.Shard,int,notcher/fold.Shard]$1", by decide, Try.func43.trans (congrArg some (by kernel_rfl))⟩
  t0 := Try.underlying0
  a0 := Try.isAgg0
  z0 := Try.sizeOf0
  v0 := Try.zeroValue0
  t4 := Try.underlying4
  a4 := Try.isAgg4
  z4 := Try.sizeOf4
  v4 := Try.zeroValue4
  t23 := Try.underlying57
  a23 := Try.isAgg57
  z23 := Try.sizeOf57
  v23 := Try.zeroValue57
  t26 := Try.underlying3
  a26 := Try.isAgg3
  z26 := Try.sizeOf3
  v26 := Try.zeroValue3
  t27 := Try.underlying72
  a27 := Try.isAgg72
  z27 := Try.sizeOf72
  v27 := Try.zeroValue72
  t28 := Try.underlying73
  a28 := Try.isAgg73
  z28 := Try.sizeOf73
  v28 := Try.zeroValue73
  t33 := Try.underlying65
  a33 := Try.isAgg65
  z33 := Try.sizeOf65
  v33 := Try.zeroValue65

/-- Where the kit's bodies lie at this dump. -/
def sortedA_ren : Go.Shelf.Ren := ⟨fun | 6 => 28 | 8 => 41 | 9 => 42 | 11 => 52 | 13 => 54 | 12 => 53 | 23 => 68 | 24 => 69 | 14 => 59 | 15 => 60 | 16 => 61 | 17 => 62 | 18 => 63 | 19 => 64 | 20 => 65 | 21 => 66 | 22 => 67 | 25 => 73 | 26 => 74 | 27 => 75 | 28 => 76 | 29 => 77 | 30 => 78 | 31 => 80 | n => n, fun | 26 => 3 | 28 => 73 | 24 => 70 | 0 => 0 | 3 => 3 | 37 => 79 | 48 => 108 | 50 => 27 | 4 => 4 | 40 => 100 | 39 => 99 | 45 => 105 | 5 => 5 | 9 => 9 | 51 => 112 | 55 => 115 | 57 => 117 | 58 => 118 | 33 => 65 | n => n, fun n => n⟩

theorem sortedA : SlLaysZI.n6 Try.prog sortedA_ren where
  mixed := by kernel_rfl
  f6 := ⟨"slices.Sorted[int]", by decide, Try.func28.trans (congrArg some (by kernel_rfl))⟩
  f8 := ⟨"slices.Collect[int]", by decide, Try.func41.trans (congrArg some (by kernel_rfl))⟩
  f11 := ⟨"slices.AppendSeq[[]int,int]", by decide, Try.func52.trans (congrArg some (by kernel_rfl))⟩
  t0 := Try.underlying0
  a0 := Try.isAgg0
  z0 := Try.sizeOf0
  v0 := Try.zeroValue0
  t24 := Try.underlying70
  a24 := Try.isAgg70
  z24 := Try.sizeOf70
  v24 := Try.zeroValue70
  t26 := Try.underlying3
  a26 := Try.isAgg3
  z26 := Try.sizeOf3
  v26 := Try.zeroValue3
  t28 := Try.underlying73
  a28 := Try.isAgg73
  z28 := Try.sizeOf73
  v28 := Try.zeroValue73
  i26 := by kernel_rfl

/-- Where the kit's bodies lie at this dump. -/
def sortA_ren : Go.Shelf.Ren := ⟨fun | 5 => 42 | 8 => 54 | 7 => 53 | 19 => 68 | 20 => 69 | 10 => 59 | 11 => 60 | 12 => 61 | 13 => 62 | 14 => 63 | 15 => 64 | 16 => 65 | 17 => 66 | 18 => 67 | 30 => 73 | 31 => 74 | 32 => 75 | 33 => 76 | 34 => 77 | 35 => 78 | 40 => 80 | n => n, fun | 23 => 70 | 25 => 3 | 3 => 3 | 32 => 79 | 22 => 70 | 0 => 0 | 44 => 108 | 46 => 27 | 4 => 4 | 36 => 100 | 35 => 99 | 41 => 105 | 5 => 5 | 9 => 9 | 53 => 112 | 57 => 115 | 63 => 117 | 64 => 118 | n => n, fun n => n⟩

theorem sortA : SlLaysM.n5 Try.prog sortA_ren where
  mixed := by kernel_rfl
  f5 := ⟨"slices.Sort[[]int,int]", by decide, Try.func42.trans (congrArg some (by kernel_rfl))⟩
  f7 := ⟨"slices.pdqsortOrdered[int]", by decide, Try.func53.trans (congrArg some (by kernel_rfl))⟩
  f8 := Try.func54.trans (congrArg some (by kernel_rfl))
  f10 := ⟨"slices.insertionSortOrdered[int]", by decide, Try.func59.trans (congrArg some (by kernel_rfl))⟩
  f11 := ⟨"slices.heapSortOrdered[int]", by decide, Try.func60.trans (congrArg some (by kernel_rfl))⟩
  f12 := ⟨"slices.breakPatternsOrdered[int]", by decide, Try.func61.trans (congrArg some (by kernel_rfl))⟩
  f13 := ⟨"slices.choosePivotOrdered[int]", by decide, Try.func62.trans (congrArg some (by kernel_rfl))⟩
  f14 := ⟨"slices.reverseRangeOrdered[int]", by decide, Try.func63.trans (congrArg some (by kernel_rfl))⟩
  f15 := ⟨"slices.partialInsertionSortOrdered[int]", by decide, Try.func64.trans (congrArg some (by kernel_rfl))⟩
  f16 := ⟨"cmp.Less[int]", by decide, Try.func65.trans (congrArg some (by kernel_rfl))⟩
  f17 := ⟨"slices.partitionEqualOrdered[int]", by decide, Try.func66.trans (congrArg some (by kernel_rfl))⟩
  f18 := ⟨"slices.partitionOrdered[int]", by decide, Try.func67.trans (congrArg some (by kernel_rfl))⟩
  f19 := Try.func68.trans (congrArg some (by kernel_rfl))
  f20 := Try.func69.trans (congrArg some (by kernel_rfl))
  f30 := ⟨"slices.siftDownOrdered[int]", by decide, Try.func73.trans (congrArg some (by kernel_rfl))⟩
  f31 := Try.func74.trans (congrArg some (by kernel_rfl))
  f32 := Try.func75.trans (congrArg some (by kernel_rfl))
  f33 := ⟨"slices.medianAdjacentOrdered[int]", by decide, Try.func76.trans (congrArg some (by kernel_rfl))⟩
  f34 := ⟨"slices.medianOrdered[int]", by decide, Try.func77.trans (congrArg some (by kernel_rfl))⟩
  f35 := ⟨"cmp.isNaN[int]", by decide, Try.func78.trans (congrArg some (by kernel_rfl))⟩
  f40 := ⟨"slices.order2Ordered[int]", by decide, Try.func80.trans (congrArg some (by kernel_rfl))⟩
  t0 := Try.underlying0
  a0 := Try.isAgg0
  z0 := Try.sizeOf0
  v0 := Try.zeroValue0
  t3 := Try.underlying3
  a3 := Try.isAgg3
  z3 := Try.sizeOf3
  v3 := Try.zeroValue3
  t4 := Try.underlying4
  a4 := Try.isAgg4
  z4 := Try.sizeOf4
  v4 := Try.zeroValue4
  t5 := Try.underlying5
  a5 := Try.isAgg5
  z5 := Try.sizeOf5
  v5 := Try.zeroValue5
  t9 := Try.underlying9
  a9 := Try.isAgg9
  z9 := Try.sizeOf9
  v9 := Try.zeroValue9
  t22 := Try.underlying70
  a22 := Try.isAgg70
  z22 := Try.sizeOf70
  v22 := Try.zeroValue70
  t23 := Try.underlying70
  a23 := Try.isAgg70
  z23 := Try.sizeOf70
  v23 := Try.zeroValue70
  t25 := Try.underlying3
  a25 := Try.isAgg3
  z25 := Try.sizeOf3
  v25 := Try.zeroValue3
  t32 := Try.underlying79
  a32 := Try.isAgg79
  z32 := Try.sizeOf79
  v32 := Try.zeroValue79
  t35 := Try.underlying99
  a35 := Try.isAgg99
  z35 := Try.sizeOf99
  v35 := Try.zeroValue99
  t36 := Try.underlying100
  a36 := Try.isAgg100
  z36 := Try.sizeOf100
  v36 := Try.zeroValue100
  t41 := Try.underlying105
  a41 := Try.isAgg105
  z41 := Try.sizeOf105
  v41 := Try.zeroValue105
  t44 := Try.underlying108
  a44 := Try.isAgg108
  z44 := Try.sizeOf108
  v44 := Try.zeroValue108
  t46 := Try.underlying27
  a46 := Try.isAgg27
  z46 := Try.sizeOf27
  v46 := Try.zeroValue27
  t53 := Try.underlying112
  a53 := Try.isAgg112
  z53 := Try.sizeOf112
  v53 := Try.zeroValue112
  t57 := Try.underlying115
  a57 := Try.isAgg115
  z57 := Try.sizeOf115
  v57 := Try.zeroValue115
  t63 := Try.underlying117
  a63 := Try.isAgg117
  z63 := Try.sizeOf117
  v63 := Try.zeroValue117
  t64 := Try.underlying118
  a64 := Try.isAgg118
  z64 := Try.sizeOf118
  v64 := Try.zeroValue118

theorem sortsA (m : Nat) : AnyZI.SortsIn Try.prog sortedA_ren Fence.wide m :=
  ⟨fun blk off cap ss W hH hblk hsz => callsIn_wide.2 (AnyM.slices_Sort_int sortA blk off cap ss W hH hblk hsz),
   fun p cap W => callsIn_wide.2 (AnyM.slices_Sort_int_none sortA p cap W)⟩

/-- Of a map told value by value: its keys, sorted. -/
theorem keys_told {w : World} {k : TypeId} {b n : Nat} {D : DataW Value} {l : List Int} (hk : Try.prog.underlying k = some (.int .i64)) (hown : w.ownsMap Try.prog k rdV b n D) {g : Int → Option Value}
    (hat : ∀ x, in64 x → ∀ zd, D.atKey (.int .i64 x) zd = match g x with | some v => .held v | none => zd) (hl : l.Pairwise (· < ·)) (hin : ∀ x ∈ l, in64 x) (hg : ∀ x, in64 x → (x ∈ l ↔ (g x).isSome = true)) {ss : List Int} (hs : ss.Perm (intKeys D)) :
    ss.mergeSort (fun x y => decide (x ≤ y)) = l := by
  have hperm : l.Perm (intKeys D) := by
    obtain ⟨es, hD, hpw, _⟩ := hown.entries (int_keyed hk)
    obtain ⟨es', hD', hko⟩ := hown.keysOf
    obtain rfl : es = es' := by rw [hD] at hD'; simpa using hD'
    subst hD
    refine perm_intKeys hpw (fun p hp => by obtain ⟨v, hv⟩ := hko p hp; obtain ⟨x, _, hx, _⟩ := Maps.keyOf_i64 hk hv; exact ⟨x, hx⟩) (hl.imp fun h => by omega) fun x => ?_
    constructor
    · intro hx
      have h1 := hin x hx
      obtain ⟨v, hv⟩ := Option.isSome_iff_exists.1 ((hg x h1).1 hx)
      have := hat x h1
      rw [hv] at this
      exact has_true_of_atKey this
    · intro hx
      have h1 : in64 x := by
        rw [has_eq, List.any_eq_true] at hx
        obtain ⟨p, hp, hsame⟩ := hx
        obtain ⟨v, hv⟩ := hko p hp
        obtain ⟨y, _, hy, hwf⟩ := Maps.keyOf_i64 hk hv
        rw [hy] at hsame
        have : y = x := by simpa [Lit.sameKey] using hsame
        subst this
        exact hwf
      refine (hg x h1).2 ?_
      cases hv : g x with
      | some v => rfl
      | none =>
        have := hat x h1
        rw [hv] at this
        rw [has_false_of_atKey this] at hx
        cases hx
  have h1 : (hs.trans hperm.symm) = (hs.trans hperm.symm) := rfl
  have h2 := mergeSort_of_perm_i (hs.trans hperm.symm)
  rw [show ss.mergeSort (fun x y => decide (x ≤ y)) = ss.mergeSort leI from rfl, h2]
  exact List.mergeSort_of_pairwise (hl.imp fun h => by simp only [leI, decide_eq_true_eq]; omega)
theorem shards_nums (s : PF) : ((shardsF s).map Prod.fst).Pairwise (· < ·) := List.pairwise_map.2 (shards_rise s 8)
theorem fkeys_any (mb : Option Nat) (W : World) : Calls Try.prog 29 #[.map mb] W fun e w' => e = .returned (.func (.func 43) #[] #[.pointer (some ⟨W.heap.size, 0, none⟩)]) ∧ w' = W.alloc (.cells #[.map mb] 57) :=
  (callsIn_wide (n := 5)).1 (AnyZI.keys_in keysA Fence.wide 5 trivial rfl mb W)
set_option maxHeartbeats 1000000 in
theorem fsorted_any {w : World} {f : FA} {s : PF} {T : Nat} (h : StAt w f s T) (hg : s.good) (hT : T ≤ 1000000) :
    Calls Try.prog 28 #[.func (.func 43) #[] #[.pointer (some ⟨w.heap.size, 0, none⟩)]] (w.alloc (.cells #[.map (some f.m1)] 57)) fun e w' => ∃ v, e = .returned v ∧ w'.ownsRow (w.heap.size + 1) 3 1 v (shardsF s).length ((shardsF s).map fun p => .int .i64 p.1) ∧ Mods Nil w w' := by
  obtain ⟨n, g, ⟨D, hown, hsz, hat⟩, hnT, hG⟩ := h.shards
  have hbl := hown.lt
  have hseq : SeqGives Fence.wide 2 Try.prog 43 #[.pointer (some ⟨w.heap.size, 0, none⟩)] encZ (fun ss => ss.Perm (intKeys D)) (Maps.size D) (w.alloc (.cells #[.map (some f.m1)] 57)) :=
    AnyZI.keys_gives (ρ := keysA_ren) { keysA with } Fence.wide _ trivial rfl (by omega) w.heap.size f.m1 n D _ (by simp) (by simp) (by
      obtain ⟨es, clock, hb, Ft, hs, hD⟩ := hown
      exact ⟨es, clock, (Below.heap_alloc _ _ f.m1 hbl).trans hb, Ft, hs, hD⟩)
  have cS := AnyZI.sorted_in sortedA Fence.wide 5 trivial trivial trivial trivial rfl (by omega) (sortsA _) (enters_of Try.func42 (by kernel_rfl) rfl) 43 #[.pointer (some ⟨w.heap.size, 0, none⟩)] trivial (enters_of Try.func43 (by kernel_rfl) rfl) _ _ (by unfold maxLen; omega) (by omega) _ hseq
  refine ((callsIn_wide (n := 5)).1 cS).mono ?_
  rintro e w' ⟨v, ss, rfl, hS, hrow, -, hb⟩
  have hK : ss.mergeSort (fun x y => decide (x ≤ y)) = (shardsF s).map Prod.fst := by
    refine keys_told Try.underlying3 hown hat (shards_nums s) (fun x hx => ?_) (fun x hx => ?_) hS
    · obtain ⟨⟨i, q⟩, hp, rfl⟩ := List.mem_map.1 hx
      have := (hg.ids _ _ ((mem_shards hg).1 hp)).1
      exact in64_of (by show _ ≤ i; omega) (by show i ≤ _; omega)
    · have h1 := hG x hx
      constructor
      · intro hm
        obtain ⟨⟨i, q⟩, hp, rfl⟩ := List.mem_map.1 hm
        have h2 := (mem_shards hg).1 hp
        dsimp only at h1
        rw [h2] at h1
        obtain ⟨A, n', c, e, _⟩ := h1
        rw [e]; rfl
      · intro hm
        cases hs : s.sh x with
        | none => rw [hs] at h1; rw [show g x = none from h1] at hm; cases hm
        | some q => exact List.mem_map.2 ⟨(x, q), (mem_shards hg).2 hs, rfl⟩
  have hlen : ss.length = (shardsF s).length := by
    have := congrArg List.length hK
    rwa [List.length_mergeSort, List.length_map] at this
  rw [hK, hlen, List.map_map] at hrow
  have hsz1 : (w.alloc (.cells #[.map (some f.m1)] 57)).heap.size = w.heap.size + 1 := by simp
  rw [hsz1] at hrow
  exact ⟨v, rfl, hrow, Mods.of_below ((Below.refl _ w).alloc (Nat.le_refl _) _ |>.trans (hb.mono (by simp)))⟩
end Go.Proofs.Ytkodmgnagfolpaa
end

section
/- Package fold: Shards. -/
namespace Go.Proofs.Ytkodmgnagfolpaa
set_option maxRecDepth 100000
open Go.RowKit Go.Maps
set_option linter.unusedVariables false
set_option linter.unusedSimpArgs false

/-- A shard where it lies. -/
structure ShP where
  id : Int
  segs : Int
  A : Option Addr
  c : Nat
  lens : List Nat
  fin : Bool
def ShP.plain (q : ShP) : Int × PH := (q.id, { segs := q.segs, lens := q.lens, final := q.fin })
def ShP.cells (q : ShP) : List Value := [.int .i64 q.id, .int .i64 q.segs, .slice q.A q.lens.length q.c, .bool q.fin]
def shcs : List ShP → List Value
  | [] => []
  | q :: l => q.cells ++ shcs l
theorem shcs_append : ∀ a b : List ShP, shcs (a ++ b) = shcs a ++ shcs b
  | [], b => rfl
  | q :: a, b => by simp [shcs, shcs_append a b]
theorem shcs_one : ∀ (l : List ShP), ∀ u ∈ shcs l, u.oneCell' = true
  | [], u, h => by cases h
  | q :: l, u, h => by
    rcases List.mem_append.1 h with h | h
    · simp [ShP.cells] at h
      rcases h with rfl | rfl | rfl | rfl <;> rfl
    · exact shcs_one l u h
theorem shcs_get : ∀ {l : List ShP} {i : Nat} {q : ShP} (h : l[i]? = some q) {j : Nat}, j < 4 → (shcs l)[i * 4 + j]? = q.cells[j]?
  | p :: l, 0, q, h, j, hj => by
    simp only [List.getElem?_cons_zero, Option.some.injEq] at h
    subst h
    rw [shcs, List.getElem?_append_left (by simp [ShP.cells]; omega)]
    simp
  | p :: l, i + 1, q, h, j, hj => by
    rw [shcs, List.getElem?_append_right (by simp [ShP.cells]; omega)]
    rw [← shcs_get (l := l) (i := i) (by simpa using h) hj]
    simp only [ShP.cells, List.length_cons, List.length_nil]
    congr 1
    omega
/-- Shards in memory, their lengths too the call's own. -/
structure OwnH (base : Nat) (w : World) (v : Value) (l : List ShP) : Prop where
  own : w.ownsRow base 42 4 v l.length (shcs l)
  rows : ∀ q ∈ l, w.ownsRow base 27 1 (.slice q.A q.lens.length q.c) q.lens.length (nums q.lens)
theorem OwnH.none (base : Nat) (w : World) : OwnH base w (.slice none 0 0) [] := ⟨World.ownsRow_nil _ _ _ _, fun q h => by cases h⟩
theorem OwnH.mods {base : Nat} {w w' : World} {v : Value} {l : List ShP} {S : Nat → Prop} (h : OwnH base w v l) (hm : Mods S w w') (h1 : ∀ k, v.ownBlock = some k → ¬ S k) (h2 : ∀ q ∈ l, ∀ k, (Value.slice q.A q.lens.length q.c).ownBlock = some k → ¬ S k) : OwnH base w' v l :=
  ⟨own_mods h.own hm h1, fun q hq => own_mods (h.rows q hq) hm (h2 q hq)⟩
theorem OwnH.nil {base : Nat} {w w' : World} {v : Value} {l : List ShP} (h : OwnH base w v l) (hm : Mods Nil w w') : OwnH base w' v l := h.mods hm (fun _ _ h => h) (fun _ _ _ _ h => h)
theorem OwnH.base {base b' : Nat} {w : World} {v : Value} {l : List ShP} (h : OwnH base w v l) (hb : b' ≤ base) : OwnH b' w v l := ⟨ownsRow_base_a h.own hb, fun q hq => ownsRow_base_a (h.rows q hq) hb⟩
/-- No block of shards, or of their lengths, is one of the state's. -/
theorem OwnH.off {base : Nat} {w w' : World} {v : Value} {l : List ShP} {f : FA} {s : PF} {T : Nat} (h : OwnH base w v l) (hs : StAt w f s T) (hm : Mods (FS f) w w') : OwnH base w' v l :=
  h.mods hm (fun k hk hf => by
    rcases hf with rfl | rfl | rfl | hf
    · exact own_blk_ne h.own hs.blk (by decide) hk
    · exact isMap_own hs.map1 h.own hk
    · exact isMap_own hs.map2 h.own hk
    · exact own_own_ne h.own hs.spans (by decide) hk hf) (fun q hq k hk => hs.nums_off (h.rows q hq) k hk)
/-- One more behind them. -/
theorem OwnH.push {base : Nat} {w w1 w2 : World} {v v' : Value} {l : List ShP} {q : ShP} (h : OwnH base w v l) (hm : Mods Nil w w1) (hq : w1.ownsRow base 27 1 (.slice q.A q.lens.length q.c) q.lens.length (nums q.lens))
    (ho : w2.ownsRow base 42 4 v' (l.length + 1) (shcs l ++ q.cells)) (hg : w1.grownBy w2 v.ownBlock) : OwnH base w2 v' (l ++ [q]) := by
  have h1 := h.nil hm
  have m2 : Mods (fun k => v.ownBlock = some k) w1 w2 := (Mods.refl _ _).grown hg (fun k hk _ => hk)
  refine ⟨?_, fun r hr => ?_⟩
  · rw [shcs_append, List.length_append]
    simpa [shcs] using ho
  · have hr1 : w1.ownsRow base 27 1 (.slice r.A r.lens.length r.c) r.lens.length (nums r.lens) := by
      rcases List.mem_append.1 hr with hr | hr
      · exact h1.rows r hr
      · rw [List.mem_singleton.1 hr]; exact hq
    exact own_mods hr1 m2 (fun k hk he => own_own_ne hr1 h1.own (by decide) hk he)
theorem infoSh : (Try.prog.info? 42).map (fun i => (i.zero, i.size, i.bytes)) = some (some zeroS, 4, 48) := by kernel_rfl
theorem cut_fix {xs : List Nat} (h : isCut xs) : cut xs = xs := cut_ext (cut_isCut xs) h (fun i => vat_cut xs i)
theorem shards_len (s : PF) : ∀ k : Nat, (shardsTo s k).length ≤ k
  | 0 => Nat.le_refl _
  | k + 1 => by
    have := shards_len s k
    simp only [shardsTo, List.length_append]
    cases s.sh k <;> simp <;> omega
theorem four_cells {w : World} {g : Nat} {t : TypeId} {a b c d : Value} (h : Blk w g t #[a, b, c, d]) : w.cell? ⟨g, 0, none⟩ = some a ∧ w.cell? ⟨g, 1, none⟩ = some b ∧ w.cell? ⟨g, 2, none⟩ = some c ∧ w.cell? ⟨g, 3, none⟩ = some d := ⟨h.cell 0, h.cell 1, h.cell 2, h.cell 3⟩
theorem own_form {w : World} {base n size : Nat} {e : TypeId} {v : Value} {xs : List Value} (h : w.ownsRow base e size v n xs) : ∃ A c, v = .slice A n c := by
  rcases h.2 with ⟨rfl, hx⟩ | ⟨g, cap, cur, rfl, _⟩
  · subst hx; exact ⟨_, _, rfl⟩
  · exact ⟨_, _, rfl⟩
def ShTold (w : World) (s : PF) (e : Ending) (w' : World) : Prop := ∃ v l, e = .returned v ∧ OwnH w.heap.size w' v l ∧ l.map ShP.plain = shardsF s ∧ Mods Nil w w'
set_option maxHeartbeats 3200000 in
theorem fshards_any {w : World} {f : FA} {s : PF} {T : Nat} (h : StAt w f s T) (hg : s.good) (hT : T ≤ 1000000) :
    Calls Try.prog 16 #[.pointer (some ⟨f.b, 0, none⟩)] w (ShTold w s) := by
  have HH := Lib.hid h
  have HG := Lib.hid hg
  have HSF : Hid (∀ i q, (i, q) ∈ shardsF s → s.sh i = some q) := Lib.hid (fun i q hm => (mem_shards hg).1 hm)
  have HQT : Hid (∀ (e : Ending) (w' : World) v l, e = .returned v → OwnH w.heap.size w' v l → l.map ShP.plain = shardsF s → Mods Nil w w' → ShTold w s e w') := Lib.hid (fun e w' v l h1 h2 h3 h4 => ⟨v, l, h1, h2, h3, h4⟩)
  have HKEY := Lib.hid (fsorted_any h hg hT)
  obtain ⟨d0, d1, d2, d3⟩ := h.cells
  have D0 := Lib.hid d0
  obtain ⟨i0, hi, hz0, hz1, hz2⟩ := info_parts infoSh
  obtain ⟨SF, hSF⟩ : ∃ SF, shardsF s = SF := ⟨_, rfl⟩
  obtain ⟨N, hN⟩ : ∃ N, SF.length = N := ⟨_, rfl⟩
  rw [hSF] at HSF HKEY HQT
  rw [hN] at HKEY
  have HN := Lib.hid hN
  have hN8 : N ≤ 8 := by
    have := shards_len s 8
    rw [← hN, ← hSF]; exact this
  generalize hQQ : ShTold w s = QQ at HQT ⊢
  clear h hg d1 d2 d3 hSF hN hQQ
  go_enter Try.func16, Try.ntmps16
  go_wp2_with (first
    | (go_at_call 29; refine (fkeys_any _ _).mono ?_; rintro e w1 ⟨rfl, rfl⟩)
    | (go_at_call 28; refine HKEY.out.mono ?_; rintro e w2 ⟨v, rfl, o2, m2⟩; obtain ⟨A2, c2, rfl⟩ : ∃ A c, v = .slice A N c := own_form o2; have O2 := Lib.hid o2; have M2 := Lib.hid m2; clear o2 m2))
  go_loopw [3, 16] (fun x y wr => ∃ (j : Nat) (l : List ShP), j ≤ N ∧ y = .int .i64 (j : Int) ∧ l.length = j ∧ l.map ShP.plain = SF.take j ∧ OwnH w2.heap.size wr x l ∧ Mods Nil w2 wr) (fun _ y _ => N - (intOf y).toNat)
  case atStart => exact ⟨0, [], Nat.zero_le _, rfl, rfl, rfl, OwnH.none _ _, Mods.refl _ _⟩
  case round =>
    obtain ⟨j, l, hj, rfl, hl, hp, o, m⟩ := hrel
    have HL := Lib.hid hl
    have HP := Lib.hid hp
    have HO := Lib.hid o
    have HM := Lib.hid m
    have HI0 := Lib.hid hi
    by_cases hlt : j < N
    · have hltI : (j : Int) < (N : Int) := by omega
      obtain ⟨p, hpj⟩ : ∃ p, SF[j]? = some p := ⟨_, List.getElem?_eq_getElem (by rw [HN.out]; exact hlt)⟩
      obtain ⟨i, q⟩ := p
      have hs := HSF.out i q (List.mem_of_getElem? hpj)
      obtain ⟨hi07, hsg, hcut, hq4⟩ := HG.out.ids i q hs
      have hi64 : in64 i := in64_of (by omega) (by omega)
      obtain ⟨A1, n1, c1, hn1, ho1, hlk⟩ := look_sh HH.out hi64 hs
      obtain ⟨g2, cap2, cur2, e2, hb2, hg2, -, -, -, -, -, hcell2, -⟩ := own_place O2.out (by omega)
      injection e2 with e2 e3 e4
      subst e2
      have z0 : wr.cell? ⟨g2, j, none⟩ = some (.int .i64 i) := (World.cell?_of_block (m.block g2 hg2 (fun h => h))).trans (hcell2 j _ (by rw [List.getElem?_map, hpj]; rfl))
      have HM0 : Hid (Mods Nil w wr) := Lib.hid (M2.out.trans m)
      obtain ⟨sg, hsgE⟩ : ∃ sg, q.segs = sg := ⟨_, rfl⟩
      obtain ⟨fi, hfi⟩ : ∃ fi, q.final = fi := ⟨_, rfl⟩
      have HS1 : Hid (∀ V, Mods Nil wr V → Sl V A1 c1 (nums q.lens)) := Lib.hid (fun V hV => own_sl (own_mods ho1 (HM0.out.trans hV) (fun _ _ h => h)))
      have HQ : Hid (q = { segs := sg, lens := q.lens, final := fi }) := Lib.hid (by rw [← hsgE, ← hfi])
      have HCF := Lib.hid (cut_fix hcut)
      have HN1 := Lib.hid hn1
      have HN4 : Hid (n1 ≤ 1000000) := Lib.hid (by omega)
      have HLK : Hid (∀ V, Mods Nil wr V → (Instr.lookup 57 (.map (some f.m1)) (.int .i64 i) false).run Try.prog V = .ok (.agg #[.int .i64 i, .int .i64 sg, .slice A1 n1 c1, .bool fi]) V) := Lib.hid (fun V hV => by
        have := (hlk V (HM0.out.trans hV)).2
        unfold shV at this
        rw [hsgE, hfi] at this
        exact this)
      have HTK : Hid (SF.take (j + 1) = SF.take j ++ [(i, q)]) := Lib.hid (by
        obtain ⟨hj2, e⟩ := List.getElem?_eq_some_iff.1 hpj
        rw [List.take_succ_eq_append_getElem hj2, e])
      clear o m hl hp hpj hs hi07 hsg hcut hq4 hi64 hn1 ho1 hlk hb2 hg2 hcell2 e3 e4 hsgE hfi hi
      have z1 : wr.cell? ⟨f.b, 0, none⟩ = some (.map (some f.m1)) := (World.cell?_of_block (HM0.out.block f.b HH.out.blk.lt (fun h => h))).trans D0.out
      have zl := HLK.out wr (Mods.refl _ _)
      clear d0
      have B3 := Lib.hid (Blk.new wr 42 #[.int .i64 i, .int .i64 sg, .slice A1 n1 c1, .bool fi])
      go_wp2_with (first
        | (go_at_call 30; refine (vcut_any _ HN1.out HN4.out (HS1.out _ ((Mods.refl Nil wr).alloc _))).mono ?_; rintro e w4 ⟨v4, rfl, o4, m4⟩; rw [HCF.out, HN1.out] at o4; obtain ⟨A4, c4, rfl⟩ := own_form o4; have b4 := B3.out.mods m4 (fun h => h); have O4 := Lib.hid o4; have M4 := Lib.hid m4; have B4 := Lib.hid b4; have f4 := b4.frozen 2; obtain ⟨y40, y41, y42, y43⟩ := four_cells b4; have M5 := Lib.hid (Mods.setCell (S := Nil) (p := ⟨wr.heap.size, 2, none⟩) (((Mods.refl Nil wr).alloc _).trans m4) (fun h => absurd h (Nat.lt_irrefl _)) (.slice A4 n1 c4)); clear o4 m4 b4)
        | (at_builtin; go_loud (have OW := (HO.out.nil (M5.out.alloc (.cells #[.int .i64 i, .int .i64 sg, .slice A4 n1 c4, .bool fi] 42))).own; rw [HL.out] at OW; refine wpList_append_own_at _ rfl _ _ 39 rfl w2.heap.size 42 i0 zeroS 4 48 Try.underlying39 HI0.out hz0 hz1 hz2 rfl (by decide) u3 j (shcs l) rfl OW ⟨w4.heap.size, 0, none⟩ 1 1 [.int .i64 i, .int .i64 sg, .slice A4 n1 c4, .bool fi] rfl rfl (five_at _ (by simp)) (by simp [Value.oneCell']) (by unfold maxLen; omega) (by omega) (by have := HM.out.size; have := M5.out.size; simp at this; simp; omega) ?_; intro v' w6 hown hgrow _ _; have HOWN := Lib.hid hown; have HGROW := Lib.hid hgrow; clear hown hgrow OW)))
      have M6 := Lib.hid (M5.out.alloc (.cells #[.int .i64 i, .int .i64 sg, .slice A4 n1 c4, .bool fi] 42))
      have ms : Mods (· = wr.heap.size) w4 (w4.setCell ⟨wr.heap.size, 2, none⟩ (.slice A4 n1 c4)) := Mods.setCell (S := (· = wr.heap.size)) (Mods.refl _ _) (fun _ => rfl) _
      have hz : (wr.alloc (.cells #[.int .i64 i, .int .i64 sg, .slice A1 n1 c1, .bool fi] 42)).heap.size = wr.heap.size + 1 := by simp
      have o4 := O4.out
      rw [hz] at o4
      have o5 := own_mods (own_mods o4 ms (fun k hk e => by subst e; exact own_blk_ne o4 B4.out (by decide) hk)) ((Mods.refl Nil _).alloc (.cells #[.int .i64 i, .int .i64 sg, .slice A4 n1 c4, .bool fi] 42)) (fun _ _ h => h)
      have hp := OwnH.push (q := ⟨i, sg, A4, c4, q.lens, fi⟩) HO.out M6.out (by
        show World.ownsRow _ _ _ _ (.slice A4 q.lens.length c4) q.lens.length _
        rw [HN1.out]
        exact ownsRow_base_a o5 (by have := HM.out.size; omega)) (by
        show World.ownsRow _ _ _ _ _ (l.length + 1) (shcs l ++ [.int .i64 i, .int .i64 sg, .slice A4 q.lens.length c4, .bool fi])
        rw [HL.out, HN1.out]
        exact HOWN.out) HGROW.out
      refine ⟨⟨j + 1, l ++ [⟨i, sg, A4, c4, q.lens, fi⟩], by omega, by go_num, by simp [HL.out], ?_, hp, ?_⟩, by simp [intOf]; omega⟩
      · rw [HTK.out, List.map_append, HP.out]
        have hq := HQ.out
        simp only [List.map_cons, List.map_nil, ShP.plain]
        rw [← hq]
      · exact (HM.out.trans M6.out).nil_trans (T := fun k => u3.ownBlock = some k) ((Mods.refl _ _).grown HGROW.out (fun k hk _ => hk)) (fun k hk => (HO.out.own.lt k hk).1)
    · obtain rfl : N = j := by omega
      have hp2 : l.map ShP.plain = SF := by rw [hp]; exact List.take_of_length_le (by rw [HN.out]; exact Nat.le_refl _)
      have HP2 := Lib.hid hp2
      clear o m hl hp hi hp2
      go_wp2_with fail
      exact HQT.out _ _ _ l rfl (HO.out.base M2.out.size) HP2.out (M2.out.trans HM.out)
end Go.Proofs.Ytkodmgnagfolpaa
end
