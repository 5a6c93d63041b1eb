/- Package cell: lay. -/
import Derived.Test.YtdllgmhipenidaaCel5
import Derived.Test.YtdllgmhipenidaaArrM
import Derived.Test.YtdllgmhipenidaaMemX
namespace Go.Proofs.Ytdllgmhipenidaa
set_option maxRecDepth 100000
open Go.RowKit
set_option linter.unusedVariables false

def lay1 (t : Nat) : List UInt8 := eight t ++ List.replicate 56 0
def lay2 (t n : Nat) : List UInt8 := (lay1 t).set 8 (UInt8.ofNat n)
def lay3 (t : Nat) (s : List UInt8) : List UInt8 := headC t s ++ List.replicate 12 0
def lay4 (t : Nat) (s : List UInt8) : List UInt8 := sealedOf (headC t s) ++ List.replicate 8 0
theorem lay1_length (t : Nat) : (lay1 t).length = 64 := by simp [lay1, eight_length]
theorem lay2_length (t n : Nat) : (lay2 t n).length = 64 := by simp [lay2, lay1_length]
theorem lay3_length {t : Nat} {s : List UInt8} (h : s.length ≤ 43) : (lay3 t s).length = 64 := by simp [lay3, headC_length h]
theorem lay4_length {t : Nat} {s : List UInt8} (h : s.length ≤ 43) : (lay4 t s).length = 64 := by simp [lay4, sealedOf_length, headC_length h]
theorem lay2_eq (t n : Nat) : lay2 t n = eight t ++ [UInt8.ofNat n] ++ List.replicate 55 0 := by rfl
theorem lay_to1 (t : Nat) : ((bts zeros64).toArray.toList.take 0 ++ bts (eight t) ++ (bts zeros64).toArray.toList.drop (0 + 8)).toArray = (bts (lay1 t)).toArray := by
  rfl
theorem lay_to3 (t : Nat) {s : List UInt8} {n : Nat} (hn : s.length = n) (h : n ≤ 43) : ((bts (lay2 t n)).toArray.toList.take 9 ++ bts s ++ (bts (lay2 t n)).toArray.toList.drop (9 + n)).toArray = (bts (lay3 t s)).toArray := by
  congr 1
  show (bts (lay2 t n)).take 9 ++ bts s ++ (bts (lay2 t n)).drop (9 + n) = _
  rw [bts_take, bts_drop, ← bts_append, ← bts_append]
  congr 1
  rw [lay2_eq]
  have h9 : (eight t ++ [UInt8.ofNat n]).length = 9 := by simp [eight_length]
  rw [List.take_left' h9, ← h9, List.drop_length_add_append, List.drop_replicate]
  unfold lay3 headC
  rw [hn]
  simp only [List.append_assoc, List.replicate_append_replicate]
  rw [show 43 - n + 12 = 55 - n by omega]
theorem lay_to4 (t : Nat) {s : List UInt8} (h : s.length ≤ 43) : ((bts (lay3 t s)).toArray.toList.take 0 ++ bts (sealedOf (headC t s)) ++ (bts (lay3 t s)).toArray.toList.drop (0 + 56)).toArray = (bts (lay4 t s)).toArray := by
  congr 1
  show bts (sealedOf (headC t s)) ++ (bts (lay3 t s)).drop 56 = _
  unfold lay4
  rw [bts_append, bts_drop]
  congr 2
  unfold lay3
  rw [show 56 = (headC t s).length + 4 by rw [headC_length h], List.drop_length_add_append]
  rfl
theorem lay_to5 (t : Nat) {s : List UInt8} (h : s.length ≤ 43) : ((bts (lay4 t s)).toArray.toList.take 56 ++ bts (eight t) ++ (bts (lay4 t s)).toArray.toList.drop (56 + 8)).toArray = (bts (layC t s)).toArray := by
  congr 1
  show (bts (lay4 t s)).take 56 ++ bts (eight t) ++ (bts (lay4 t s)).drop 64 = _
  have hl := lay4_length (t := t) h
  have h56 : (sealedOf (headC t s)).length = 56 := by rw [sealedOf_length, headC_length h]
  rw [List.drop_of_length_le (by rw [bts_length]; omega), List.append_nil, bts_take, ← bts_append]
  congr 1
  unfold lay4 layC
  rw [List.take_left' h56]
theorem lay3_take {t : Nat} {s : List UInt8} (h : s.length ≤ 43) : (lay3 t s).take 52 = headC t s := by
  unfold lay3
  rw [List.take_left' (headC_length h)]
theorem wp_copy_at {P : Program} {o : Oper} {a : Act} {w : World} {K : Act → World → Prop} {Q : Exit → Act → World → Prop} (d s : Operand) (dT sT : TypeId) (hop : o.op = Op.call { callee := Callee.builtin Builtin.copy, args := #[d, s], argTypes := #[dT, sT] })
    (elem : TypeId) (hu : P.underlying dT = some (.slice elem)) (hs : (P.info? elem).map (·.size) = some 1) (g off m dCap : Nat) (t : TypeId) (cur new : Array Value) (hd : a.eval d = .slice (some ⟨g, off, none⟩) m dCap) (hB : Blk w g t cur)
    (A : Option Addr) (n c : Nat) (xs : List Value) (hx : a.eval s = .slice A n c) (hsl : Sl w A c xs) (hn : xs.length = n) (h1 : ∀ u ∈ xs, u.oneCell' = true) (hnm : n ≤ m) (hfit : off + n ≤ cur.size) (hnew : (cur.toList.take off ++ xs ++ cur.toList.drop (off + n)).toArray = new)
    (hK : ∀ W, Blk W g t new → Mods (fun i => i = g) w W → K (a.put o.dst (goInt n)) W) : o.wp P a w K Q :=
  wp_copy_sl d s dT sT hop elem hu hs g off m dCap t cur hd hB A n c xs hx hsl hn h1 hnm hfit (hK _ (by rw [hnew]; exact hB.setRow new) (Mods.setRow (S := fun i => i = g) (Mods.refl _ _) (fun _ => rfl) _))
set_option maxHeartbeats 6400000 in
theorem clay_any {w : World} {A : Option Addr} {c n : Nat} {s : List UInt8} (hs : Sl w A c (bts s)) (hn : s.length = n) (h43 : n ≤ 43) (t : Nat) :
    Calls Try.prog 97 #[.agg (bts (eight t)).toArray, .slice A n c] w fun e w' => e = .returned (.agg (bts (layC t s)).toArray) ∧ Mods Nil w w' := by
  obtain ⟨W0, hW0⟩ : ∃ W, w.alloc (.cells (bts (eight t)).toArray 144) = W := ⟨_, rfl⟩
  have M0 : Hid (Mods Nil w W0) := by rw [← hW0]; exact (Mods.refl Nil w).alloc _
  have T0 : Hid (Blk W0 w.heap.size 144 (bts (eight t)).toArray) := by rw [← hW0]; exact Lib.hid (Blk.new w 144 (bts (eight t)).toArray)
  have HS := Lib.hid hs
  have HN := Lib.hid hn
  have H43 := Lib.hid h43
  have h43s : s.length ≤ 43 := by omega
  have H43s := Lib.hid h43s
  obtain ⟨u, hu⟩ : ∃ u, UInt8.ofNat n = u := ⟨_, rfl⟩
  have hw : IntKind.u8.wrap (n : Int) = (u.toNat : Int) := by rw [← hu, IntKind.wrap_u8']; simp
  have E2 : Hid ((lay1 t).set 8 u = lay2 t n) := Lib.hid (by unfold lay2; rw [hu])
  have S52 := Lib.hid (headC_length (t := t) h43s)
  have HNI : (n : Int) ≤ 43 := by omega
  clear hs hn h43s hu
  go_enter Try.func97, Try.ntmps97
  go_wp2_with (first
    | (refine gw_alloc_of run_alloc_cb rfl rfl ?_; intro W2 b9 m9 s9; have B2 := Lib.hid b9; have R2 := Lib.hid (R1.out.mods m9 (fun h => h)); have T2 := Lib.hid (T1.out.mods m9 (fun h => h)); have M2 := Lib.hid (M1.out.trans m9); have hN1 : Hid (w.heap.size < W1.heap.size) := Lib.hid T1.out.lt; have hN2 : Hid (W0.heap.size < W1.heap.size) := Lib.hid R1.out.lt; clear b9 m9 s9)
    | (refine gw_alloc_of run_alloc_cb rfl rfl ?_; intro W1 b9 m9 s9; have R1 := Lib.hid b9; have T1 := Lib.hid (T0.out.mods m9 (fun h => h)); have M1 := Lib.hid (M0.out.trans m9); clear b9 m9 s9))
  go_still_tail 2, (by kernel_rfl)
  refine wpList_copy_mk rfl (.tmp 6) (.tmp 7) 42 42 rfl 5 Try.underlying42 infoCU W1.heap.size 0 64 64 142 (bts zeros64).toArray (bts (lay1 t)).toArray rfl B2.out.drew (some ⟨w.heap.size, 0, none⟩) 8 8 (bts (eight t)) rfl (range_sl (blkL_range T2.out.drew) (Nat.le_refl 8) (by unfold maxLen; omega)) (by rw [bts_length, eight_length]) (bts_one _) (by omega) (by rw [btsA_size]; simp [zeros64]) (lay_to1 t) ?_
  intro W3 b9 m9
  have B3 := Lib.hid b9
  have T3 := Lib.hid (T2.out.drew.mods m9 (by have := hN1.out; omega))
  have R3 := Lib.hid (R2.out.drew.mods m9 (by have := hN2.out; omega))
  have M3 := Lib.hid (M2.out.drew.nil_trans m9 (fun i hi => by have := hN1.out; omega))
  clear b9 m9
  go_wp2_with (first
    | (refine cw_store_u8 rfl 5 (.tmp 12) (.tmp 11) rfl rfl infoCU W1.heap.size 8 rfl u rfl 142 _ B3.out (by rw [lay1_length]; omega) ?_; intro W4 b9 m9; rw [E2.out] at b9; have B4 := Lib.hid b9; have T4 := Lib.hid (T3.out.mods m9 (by have := hN1.out; omega)); have R4 := Lib.hid (R3.out.mods m9 (by have := hN2.out; omega)); have M4 := Lib.hid (M3.out.nil_trans m9 (fun i hi => by have := hN1.out; omega)); clear b9 m9)
    | (refine wpList_copy_mk rfl (.tmp 13) (.tmp 14) 42 42 rfl 5 Try.underlying42 infoCU W1.heap.size 9 55 55 142 (bts (lay2 t n)).toArray (bts (lay3 t s)).toArray rfl B4.out A n c (bts s) rfl (HS.out.mods M4.out (fun _ _ h => h)) (by rw [bts_length]; exact HN.out) (bts_one _) (by have := H43.out; omega) (by rw [btsA_size, lay2_length]; have := H43.out; omega) (lay_to3 t HN.out H43.out) ?_; intro W5 b9 m9; have B5 := Lib.hid b9; have T5 := Lib.hid (T4.out.mods m9 (by have := hN1.out; omega)); have R5 := Lib.hid (R4.out.mods m9 (by have := hN2.out; omega)); have M5 := Lib.hid (M4.out.nil_trans m9 (fun i hi => by have := hN1.out; omega)); clear b9 m9))
  have SL5 : Hid (Sl W5.drew (some ⟨W1.heap.size, 0, none⟩) 64 (bts (headC t s))) := Lib.hid (by
    refine range_sl ?_ (by rw [S52.out]; omega) (by unfold maxLen; omega)
    have := range_cut (blkL_range B5.out.drew) 0 52
    rwa [List.drop_zero, lay3_take H43s.out] at this)
  have S56 : Hid ((bts (sealedOf (headC t s))).length = 56) := Lib.hid (by rw [bts_length, sealedOf_length, S52.out])
  have F64 : Hid (0 + 56 ≤ (bts (lay3 t s)).toArray.size) := Lib.hid (by rw [btsA_size, lay3_length H43s.out]; omega)
  go_region_held_law (fun _ => True) (trivial) (first
    | (rw [if_pos (by rfl)]; refine wp_copy_at (.tmp 16) (.tmp 18) 42 42 rfl 5 Try.underlying42 infoCU W1.heap.size 0 64 64 142 (bts (lay3 t s)).toArray (bts (lay4 t s)).toArray rfl B6.out A6 56 c6 (bts (sealedOf (headC t s))) rfl S6.out S56.out (bts_one _) (by omega) F64.out (lay_to4 t H43s.out) ?_; intro W7 b9 m9; have B7 := Lib.hid b9; have T7 := Lib.hid (T6.out.mods m9 (by have := hN1.out; omega)); have R7 := Lib.hid (R6.out.mods m9 (by have := hN2.out; omega)); have M7 := Lib.hid (M6.out.nil_trans m9 (fun i hi => by have := hN1.out; omega)); clear b9 m9)
    | (go_at_call 120; refine (sealed_to (n := 52) (m := 56) S52.out rfl (by omega) SL5.out).mono ?_; rintro e W6 ⟨A6, c6, rfl, s9, x1, x2, x3, m9⟩; have S6 := Lib.hid s9; have B6 := Lib.hid (B5.out.mods m9.of_drew (fun h => h)); have T6 := Lib.hid (T5.out.mods m9.of_drew (fun h => h)); have R6 := Lib.hid (R5.out.mods m9.of_drew (fun h => h)); have M6 := Lib.hid (M5.out.trans m9.of_drew); clear s9 x1 x2 x3 m9))
  all_goals
    go_wp2_with fail
    go_still_tail 2, (by kernel_rfl)
    refine wpList_copy_mk rfl (.tmp 20) (.tmp 21) 42 42 rfl 5 Try.underlying42 infoCU W1.heap.size 56 8 8 142 (bts (lay4 t s)).toArray (bts (layC t s)).toArray rfl B7.out.drew (some ⟨w.heap.size, 0, none⟩) 8 8 (bts (eight t)) rfl (range_sl (blkL_range T7.out.drew) (Nat.le_refl 8) (by unfold maxLen; omega)) (by rw [bts_length, eight_length]) (bts_one _) (by omega) (by rw [btsA_size, lay4_length H43s.out]; omega) (lay_to5 t H43s.out) ?_
    intro W8 b9 m9
    have B8 := Lib.hid b9
    have R8 := Lib.hid (R7.out.drew.mods m9 (by have := hN2.out; omega))
    have M8 := Lib.hid (M7.out.drew.nil_trans m9 (fun i hi => by have := hN1.out; omega))
    clear b9 m9
    have L64 := Lib.hid (layC_length (t := t) H43s.out)
    have LZ : Hid (W0.heap.size ≥ w.heap.size) := Lib.hid M0.out.size
    go_wp2_with (first
      | (refine gw_load_mid (by rfl) 142 _ rfl W1.heap.size 0 rfl (bts (layC t s)) _ (blkL_range B8.out) Try.underlying142 rfl (infoCBl L64.out) ?_)
      | (refine wpList_store_mk rfl 142 (.tmp 4) (.tmp 23) rfl rfl W0.heap.size rfl 142 (bts zeros64).toArray (bts (layC t s)).toArray rfl R8.out (by rw [btsA_size, btsA_size, L64.out]; rfl) (btsA_all _) (infoCBa L64.out) rfl ?_; intro W9 b9 m9; have R9 := Lib.hid b9; have M9 := Lib.hid (M8.out.nil_trans m9 (fun i hi => by have := LZ.out; omega)); clear b9 m9))
    refine bodyPost_ret (results_cell_row rfl _ _ W0.heap.size 142 (bts (layC t s)).toArray (0, 0) _ rfl R9.out Try.underlying142 rfl (infoCBa L64.out)) rfl ?_
    exact ⟨rfl, M9.out⟩
end Go.Proofs.Ytdllgmhipenidaa
