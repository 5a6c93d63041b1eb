/- Layer 6's statements: bytes as a block's. -/
import Derived.Test.YtahahnapnfalcaaDisk9
import Derived.Deep.OwnRows
namespace Go.Proofs.Ytahahnapnfalcaa
set_option maxRecDepth 100000
open Go.RowKit
set_option linter.unusedVariables false

theorem conv6 {w : World} {A : Option Addr} {n c : Nat} {xs : List UInt8} (hn : xs.length = n) (hs : Sl w A c (bts xs)) : (convert 34 9 (.slice A n c)).run Try.prog w = .ok (.string (strOf xs)) w :=
  run_string_sl _ 34 5 Try.underlying34 Try.underlying5 A n c _ hn hs 9 Try.underlying9
/-- The first so many bytes laid. -/
def padP (xs : List UInt8) (j : Nat) : List UInt8 := xs.take j ++ List.replicate (64 - j) 0
/-- Bytes as a block's. -/
def fillP (xs : List UInt8) : List UInt8 := match xs with
  | [] => padP [] 0
  | x :: r => (padP (x :: r) (min 64 (r.length + 1))).set 63 x
theorem padP_length {xs : List UInt8} {j : Nat} (h : j ≤ 64) (hj : j ≤ xs.length) : (padP xs j).length = 64 := by simp [padP]; omega
theorem fillP_length (xs : List UInt8) : (fillP xs).length = 64 := by
  cases xs with
  | nil => simp [fillP, padP]
  | cons x r => simp [fillP, padP]; omega
theorem padP_next {xs : List UInt8} {j : Nat} (h : j < 64) (hj : j < xs.length) : (padP xs j).set j xs[j] = padP xs (j + 1) := by
  unfold padP
  have hl : (xs.take j).length = j := by simp; omega
  rw [List.set_append_right _ _ (by omega), hl, Nat.sub_self, show 64 - j = (64 - (j + 1)) + 1 by omega, List.replicate_succ, List.set_cons_zero, List.take_succ_eq_append_getElem hj, List.append_assoc]
  rfl
theorem bts_set (ys : List UInt8) (j : Nat) (x : UInt8) : (bts ys).toArray.setIfInBounds j (.int .u8 (x.toNat : Int)) = (bts (ys.set j x)).toArray := by
  simp [bts, List.map_set]
/-- A block of bytes of the call's own, as a slice that no call on the disk changes. -/
theorem Bs.of_blk {w : World} {base g n : Nat} {ys : List UInt8} (h : Blk w g 5 (bts ys).toArray) (hn : ys.length = n) (hm : n ≤ maxLen) (k : Nat) : Bs base w (some ⟨g, 0, none⟩) n (ys.take k) := by
  refine ⟨⟨by simp; omega, hm, (fun h => by cases h), .inr ⟨g, 0, rfl, fun j u hu => ?_⟩⟩, fun _ a ha => ?_⟩
  · rw [h.cell, Nat.zero_add]
    rw [← bts_take, List.getElem?_take] at hu
    split at hu
    · simpa using hu
    · cases hu
  · injection ha with ha
    subst ha
    exact .inr ⟨_, _, h, by decide, by decide, by decide⟩
theorem Bs.blk {w : World} {base g : Nat} {ys : List UInt8} (h : Blk w g 5 (bts ys).toArray) (hn : ys.length = 64) : Bs base w (some ⟨g, 0, none⟩) 64 ys := by
  have := Bs.of_blk (base := base) h hn (by simp [maxLen]) 64
  rwa [List.take_of_length_le (by omega)] at this
def FillTold (w : World) (xs : List UInt8) (odd : Bool) (e : Ending) (w' : World) : Prop :=
  ∃ g, e = .returned (.slice (some ⟨g, 0, none⟩) (if odd then 63 else 64) 64) ∧ Blk w' g 5 (bts (fillP xs)).toArray ∧ w.heap.size ≤ g ∧ Mods Nil w w'

set_option maxHeartbeats 1600000 in
theorem filled_any {w : World} {A : Option Addr} {c m : Nat} {xs : List UInt8} (hs : Sl w A c (bts xs)) (hm : xs.length = m) (odd : Bool) :
    Calls Try.prog 12 #[.slice A m c, .bool odd] w (FillTold w xs odd) := by
  obtain ⟨i0, hi, hz0, hz1, hz2⟩ := info_parts infoByte
  have HS := Lib.hid hs
  have HM := Lib.hid hm
  clear hs hm
  go_enter Try.func12, Try.ntmps12
  go_wp2_with (at_make; refine wpList_make_row _ rfl _ _ 34 rfl 5 i0 (.int .u8 0) Try.underlying34 hi hz0 hz1 rfl .i64 .i64 64 rfl rfl (by rw [hz2]; omega) (by omega) ?_; have B1 := Lib.hid (Blk.new w 5 (madeCells #[.int .u8 0] 64)); have M1 := Lib.hid ((Mods.refl Nil w).alloc (.cells (madeCells #[.int .u8 0] 64) 5)); generalize w.alloc (.cells (madeCells #[.int .u8 0] 64) 5) = w1 at B1 M1 ⊢)
  have e0 : madeCells #[.int .u8 0] 64 = (bts (padP xs 0)).toArray := by
    apply Array.ext'
    rw [toList_madeCells_one]
    simp [padP, bts]
  rw [e0] at B1
  clear e0
  go_loopw [6] (fun x wr => ∃ (j : Nat), j ≤ min 64 m ∧ x = .int .i64 (j : Int) ∧ Blk wr w.heap.size 5 (bts (padP xs j)).toArray ∧ Mods Nil w wr) (fun x _ => 64 - (intOf x).toNat)
  case atStart => exact ⟨0, Nat.zero_le _, rfl, B1.out, M1.out⟩
  case round =>
    obtain ⟨j, hj, rfl, hb, hmo⟩ := hrel
    have HB := Lib.hid hb
    have HMO := Lib.hid hmo
    clear hb hmo
    by_cases hlt : j < min 64 m
    · have h1 : j < 64 := by omega
      have h2 : j < m := by omega
      have h1I : (j : Int) < 64 := by omega
      have h2I : (j : Int) < (m : Int) := by omega
      have hjx : j < xs.length := by rw [HM.out]; exact h2
      obtain ⟨b, off, rfl, -, hc⟩ := (HS.out.mods HMO.out (fun _ _ h => h)).at_ (by simp; omega)
      have c1 := hc j _ (bts_get xs j hjx)
      have hlen := padP_length (xs := xs) (j := j) (by omega) (by omega)
      have c2 := HB.out.cell j
      rw [List.getElem?_toArray, List.getElem?_eq_getElem (by rw [bts_length, hlen]; exact h1)] at c2
      replace c2 : ∃ v, wr.cell? ⟨w.heap.size, j, none⟩ = some v := ⟨_, c2⟩
      obtain ⟨v2, c2⟩ := c2
      have f2 := HB.out.frozen j
      have hb2 := HB.out.set_ j (.int .u8 (xs[j].toNat : Int))
      rw [bts_set, padP_next h1 hjx] at hb2
      have HB2 := Lib.hid hb2
      have HM2 := Lib.hid (HMO.out.setNew (p := ⟨w.heap.size, j, none⟩) (Nat.le_refl _) (.int .u8 (xs[j].toNat : Int)))
      generalize (xs[j]'hjx).toNat = y at *
      have hE : 64 - (j + 1) < 64 - j := by omega
      have hj3 : j + 1 ≤ min 64 m := hlt
      clear hc hb2 hlt hlen
      clear hjx
      go_wp2_with fail
      exact ⟨⟨j + 1, hj3, by go_num, HB2.out, HM2.out⟩, by simp [intOf]; omega⟩
    · have hend : (decide ((j : Int) < 64) && decide ((j : Int) < (m : Int))) = false := by simp; omega
      rcases Nat.eq_zero_or_pos m with rfl | hm0
      · obtain rfl : j = 0 := by omega
        have hx0 : xs = [] := List.eq_nil_of_length_eq_zero HM.out
        subst hx0
        have HF := Lib.hid (show padP [] 0 = fillP [] from rfl)
        clear hlt hend
        cases odd with
        | true =>
          go_wp2_with fail
          go_ret
          exact ⟨_, rfl, by rw [← HF.out]; exact HB.out, Nat.le_refl _, HMO.out⟩
        | false =>
          go_wp2_with fail
          go_ret
          exact ⟨_, rfl, by rw [← HF.out]; exact HB.out, Nat.le_refl _, HMO.out⟩
      · obtain ⟨x, r, rfl⟩ : ∃ x r, xs = x :: r := by
          cases xs with
          | nil => have := HM.out; simp at this; omega
          | cons x r => exact ⟨x, r, rfl⟩
        have hjm : j = min 64 (r.length + 1) := by have := HM.out; simp at this; omega
        obtain ⟨b, off, rfl, -, hc⟩ := (HS.out.mods HMO.out (fun _ _ h => h)).at_ (by simp)
        have c1 := hc 0 _ (bts_get (x :: r) 0 (by simp))
        simp only [Nat.add_zero, List.getElem_cons_zero] at c1
        have hlen := padP_length (xs := x :: r) (j := j) (by omega) (by simp; omega)
        have c2 := HB.out.cell 63
        rw [List.getElem?_toArray, List.getElem?_eq_getElem (by rw [bts_length, hlen]; omega)] at c2
        replace c2 : ∃ v, wr.cell? ⟨w.heap.size, 63, none⟩ = some v := ⟨_, c2⟩
        obtain ⟨v2, c2⟩ := c2
        have f2 := HB.out.frozen 63
        have hb2 := HB.out.set_ 63 (.int .u8 (x.toNat : Int))
        rw [bts_set, show (padP (x :: r) j).set 63 x = fillP (x :: r) by rw [hjm]; rfl] at hb2
        have HB2 := Lib.hid hb2
        have HM2 := Lib.hid (HMO.out.setNew (p := ⟨w.heap.size, 63, none⟩) (Nat.le_refl _) (.int .u8 (x.toNat : Int)))
        have hm1 : (0 : Int) < (m : Int) := by omega
        have HJM := Lib.hid hjm
        generalize x.toNat = y at *
        clear hc hb2 hlen hjm
        by_cases h64 : j < 64
        · have h64I : (j : Int) < 64 := by omega
          have hmj : decide ((j : Int) < (m : Int)) = false := by simp; omega
          cases odd with
          | true =>
            go_wp2_with fail
            go_ret
            exact ⟨_, rfl, HB2.out, Nat.le_refl _, HM2.out⟩
          | false =>
            go_wp2_with fail
            go_ret
            exact ⟨_, rfl, HB2.out, Nat.le_refl _, HM2.out⟩
        · obtain rfl : j = 64 := by omega
          cases odd with
          | true =>
            go_wp2_with fail
            go_ret
            exact ⟨_, rfl, HB2.out, Nat.le_refl _, HM2.out⟩
          | false =>
            go_wp2_with fail
            go_ret
            exact ⟨_, rfl, HB2.out, Nat.le_refl _, HM2.out⟩
end Go.Proofs.Ytahahnapnfalcaa
