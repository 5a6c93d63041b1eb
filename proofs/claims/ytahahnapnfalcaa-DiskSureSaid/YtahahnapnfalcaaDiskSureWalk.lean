/- DiskSure's walk. -/
import Derived.Test.YtahahnapnfalcaaHelp6
namespace Go.Proofs.Ytahahnapnfalcaa
set_option maxRecDepth 1000000
open Go.RowKit
set_option linter.unusedVariables false

/-- What is written to the i-th block first; the first so many of those writes. -/
def aP (xs : List UInt8) (i : Nat) : List UInt8 := fillP [xs.getD i 0, 1]
def wsP (xs : List UInt8) (j : Nat) : List (Nat × List UInt8) := (List.range j).map fun i => (i, aP xs i)
theorem wsP_next (xs : List UInt8) (j : Nat) : wsP xs (j + 1) = wsP xs j ++ [(j, aP xs j)] := by simp [wsP, List.range_succ]
theorem wsP_length (xs : List UInt8) (j : Nat) : (wsP xs j).length = j := by simp [wsP]
theorem wsP_last (xs : List UInt8) (i : Nat) : ∀ j, lastW i (wsP xs j) = if i < j then some (aP xs i) else none
  | 0 => by simp [wsP, lastW]
  | j + 1 => by
    rw [wsP_next, lastW_snoc, wsP_last xs i j]
    by_cases h : j = i
    · subst h; simp
    · by_cases h2 : i < j
      · simp [h, h2, show i < j + 1 by omega]
      · simp [h, h2, show ¬ i < j + 1 by omega]
theorem aP_length (xs : List UInt8) (i : Nat) : (aP xs i).length = 64 := fillP_length _
/-- All blocks are as they were written first. -/
def Firsts (xs : List UInt8) (n : Nat) (L : List (List UInt8)) : Prop := L.length = n ∧ ∀ i, i < n → L[i]? = some (aP xs i)
theorem firsts_laid (xs : List UInt8) (n : Nat) : Firsts xs n (layAll (List.replicate n zeros64) (wsP xs n)) := by
  refine ⟨by rw [layAll_length]; simp, fun i hi => ?_⟩
  rw [layAll_get i _ _ (by simpa using hi), wsP_last, if_pos hi, Option.getD_some]
/-- Where nothing was noted nothing waits. -/
def Noted (bs : List Bool) (W : List (Nat × List UInt8)) : Prop := ∀ i, bs[i]? = some false → ∀ x ∈ W, x.1 ≠ i
theorem Noted.next {bs : List Bool} {W : List (Nat × List UInt8)} (h : Noted bs W) {k : Nat} {F : List UInt8} : Noted (bs.set k true) (W ++ [(k, F)]) := fun i hi x hx => by
  by_cases e : k = i
  · subst e
    have hl : k < bs.length := by have := (List.getElem?_eq_some_iff.1 hi).1; simpa using this
    rw [List.getElem?_set_self hl] at hi
    cases hi
  · rw [List.getElem?_set_ne e] at hi
    rcases List.mem_append.1 hx with hx | hx
    · exact h i hi x hx
    · obtain rfl : x = (k, F) := by simpa using hx
      exact e
def bools (bs : List Bool) : List Value := bs.map .bool
theorem infoBool : (Try.prog.info? 4).map (fun i => (i.zero, i.size, i.bytes)) = some (some (.bool false), 1, 1) := by kernel_rfl

set_option maxHeartbeats 12800000 in
theorem diskSure_walk (w : World) {A : Option Addr} {c n : Nat} {xs : List UInt8} (hn : xs.length = n) (hs : Sl w A c (bts xs)) {A1 : Option Addr} {c1 m : Nat} {ys : List UInt8} (hm : ys.length = m) (hs1 : Sl w A1 c1 (bts ys)) {A2 : Option Addr} {c2 p : Nat} {pick : List UInt8} (hp : pick.length = p) (hs2 : Sl w A2 c2 (bts pick)) :
    Calls Try.prog 4 #[.slice A n c, .slice A1 m c1, .slice A2 p c2] w fun e w' => e = .returned (.bool true) ∧ Mods Nil w w' := by
  by_cases h1 : 16 < n
  · have h1I : decide ((16 : Int) < (n : Int)) = true := by simp; omega
    clear hn hs hm hs1 hp hs2
    go_enter Try.func4, Try.ntmps4
    go_wp2_with (go_at_call 9; refine (awake6_any _).mono ?_; rintro e w1 ⟨rfl, m1⟩; have M1 := Lib.hid m1; clear m1)
    go_ret
    exact ⟨rfl, M1.out⟩
  have h1I : decide ((16 : Int) < (n : Int)) = false := by simp; omega
  by_cases h2 : 20 < m
  · have h2I : decide ((20 : Int) < (m : Int)) = true := by simp; omega
    clear hn hs hm hs1 hp hs2
    go_enter Try.func4, Try.ntmps4
    go_wp2_with (go_at_call 9; refine (awake6_any _).mono ?_; rintro e w1 ⟨rfl, m1⟩; have M1 := Lib.hid m1; clear m1)
    go_ret
    exact ⟨rfl, M1.out⟩
  have h2I : decide ((20 : Int) < (m : Int)) = false := by simp; omega
  by_cases h0 : n = 0
  · subst h0
    clear hn hs hm hs1 hp hs2
    go_enter Try.func4, Try.ntmps4
    go_wp2_with (go_at_call 9; refine (awake6_any _).mono ?_; rintro e w1 ⟨rfl, m1⟩; have M1 := Lib.hid m1; clear m1)
    go_ret
    exact ⟨rfl, M1.out⟩
  have h0I : decide ((n : Int) = 0) = false := by simp; omega
  have hn16 : n ≤ 16 := by omega
  have hn1 : 1 ≤ n := by omega
  have hnI : (0 : Int) < (n : Int) := by omega
  have hnJ : ¬ ((n : Int) = 0) := by omega
  have hm20 : m ≤ 20 := by omega
  obtain ⟨i1, hi1, hy0, hy1, hy2⟩ := info_parts infoBool
  have HN := Lib.hid hn
  have HM := Lib.hid hm
  have HPL := Lib.hid hp
  have HS := Lib.hid hs
  have HP := Lib.hid hs1
  have HK := Lib.hid hs2
  clear hn hm hp hs hs1 hs2 h1 h2 h0
  go_enter Try.func4, Try.ntmps4
  go_wp2_with (first
    | (go_at_call 9; refine (awake6_any _).mono ?_; rintro e w1 ⟨rfl, m1⟩; have M1 := Lib.hid m1; clear m1)
    | (go_at_call 10; refine (lnew w1 (base := w.heap.size) (n := n) M1.out.size rfl hn1 (by omega)).mono ?_; rintro e w2 ⟨db, rfl, d2, m2⟩; have D2 := Lib.hid d2; have M2 := Lib.hid (M1.out.trans m2); clear d2 m2))
  go_loopw [11] (fun x wr => ∃ (j : Nat), j ≤ n ∧ x = .int .i64 (j : Int) ∧ DiskAt wr w.heap.size db (live (List.replicate n zeros64) (wsP xs j)) ∧ Mods Nil w wr) (fun x _ => n - (intOf x).toNat)
  case atStart => exact ⟨0, Nat.zero_le _, rfl, D2.out, M2.out⟩
  case round =>
    obtain ⟨j, hj, rfl, hd, hmo⟩ := hrel
    have HD := Lib.hid hd
    have HMO := Lib.hid hmo
    clear hd hmo
    by_cases hlt : j < n
    · have hltI : (j : Int) < (n : Int) := by omega
      have hj1 : j + 1 ≤ n := hlt
      have hjE : n - (j + 1) < n - j := by omega
      have hjx : j < xs.length := by rw [HN.out]; exact hlt
      obtain ⟨bx, ox, rfl, -, -⟩ := HS.out.at_ (by simp; omega)
      have HCX := Lib.hid (bts_get xs j hjx)
      obtain ⟨a, ha⟩ : ∃ a, xs[j]'hjx = a := ⟨_, rfl⟩
      rw [ha] at HCX
      obtain ⟨y, hy⟩ : ∃ y, a.toNat = y := ⟨_, rfl⟩
      rw [hy] at HCX
      have cx := (HS.out.mods HMO.out (fun _ _ h => h)).cells j _ HCX.out
      have hF : fillP [a, 1] = aP xs j := by unfold aP; rw [← ha]; simp [hjx]
      have HF := Lib.hid hF
      have HFI := Lib.hid (filled_any (bytes_two wr (a := a) (b := 1) hy (z := 1) rfl) rfl false)
      have HWR : Hid (∀ W5 g5, DiskAt W5 w.heap.size db (live (List.replicate n zeros64) (wsP xs j)) → Blk W5 g5 5 (bts (aP xs j)).toArray → Calls Try.prog 13 #[.pointer (some ⟨db, 0, none⟩), .int .i64 (j : Int), .slice (some ⟨g5, 0, none⟩) 64 64] W5 fun e w' => e = .returned (.int .i64 0) ∧ DiskAt w' w.heap.size db (live (List.replicate n zeros64) (wsP xs (j + 1))) ∧ DM w.heap.size W5 w') := Lib.hid (fun W5 g5 h hb => by
        have := lwrite h (by rw [wsP_length]; omega) (i := (j : Int)) (by omega) (by simpa using hlt) (Bs.blk hb (aP_length _ _)) (aP_length _ _) rfl
        rw [wsP_next]
        exact this)
      clear hF ha hy
      clear hjx
      go_wp2_with (first
        | (go_at_call 12; refine (HFI.out).mono ?_; rintro e w5 ⟨g5, rfl, b5, s5, m5⟩; rw [HF.out] at b5; have B5 := Lib.hid b5; have D5 := Lib.hid ((HD.out.nil ((Mods.refl Nil wr).alloc _)).nil m5); have M5 := Lib.hid ((HMO.out.alloc _).trans m5); clear b5 s5 m5)
        | (go_at_call 13; refine (HWR.out _ _ D5.out B5.out).mono ?_; rintro e w6 ⟨rfl, d6, m6⟩; have D6 := Lib.hid d6; have M6 := Lib.hid (DM.nilTrans M5.out (Nat.le_refl _) m6); clear d6 m6))
      exact ⟨⟨j + 1, hj1, by go_num, D6.out, M6.out⟩, by simp [intOf]; omega⟩
    · obtain rfl : j = n := by omega
      have hfir := firsts_laid xs j
      obtain ⟨L1, hL1⟩ : ∃ L1, layAll (List.replicate j zeros64) (wsP xs j) = L1 := ⟨_, rfl⟩
      rw [hL1] at hfir
      have HF1 := Lib.hid hfir
      have HSY : Hid (Calls Try.prog 15 #[.pointer (some ⟨db, 0, none⟩)] wr fun e w' => e = .returned (.int .i64 0) ∧ DiskAt w' w.heap.size db (live L1 []) ∧ DM w.heap.size wr w') := Lib.hid (by have := lsync HD.out; rw [hL1] at this; exact this)
      clear hfir hL1 hlt hj
      go_wp2_with (first
        | (go_at_call 15; refine (HSY.out).mono ?_; rintro e w7 ⟨rfl, d7, m7⟩; have D7 := Lib.hid d7; have M7 := Lib.hid (DM.nilTrans HMO.out (Nat.le_refl _) m7); clear d7 m7)
        | (at_make; refine wpList_make_row _ rfl _ _ 48 rfl 4 i1 (.bool false) Try.underlying48 hi1 hy0 hy1 rfl .i64 .i64 j rfl rfl (by rw [hy2]; omega) (by omega) ?_; have B8 := Lib.hid (Blk.new w7 4 (madeCells #[.bool false] j)); have M8 := Lib.hid ((Mods.refl Nil w7).alloc (.cells (madeCells #[.bool false] j) 4)); generalize w7.alloc (.cells (madeCells #[.bool false] j) 4) = w8 at B8 M8 ⊢))
      have e0 : madeCells #[.bool false] j = (bools (List.replicate j false)).toArray := by
        apply Array.ext'
        rw [toList_madeCells_one]
        simp [bools]
      rw [e0] at B8
      have D8 := Lib.hid (D7.out.nil M8.out)
      have M88 := Lib.hid (M7.out.trans M8.out)
      obtain ⟨gb, hgbe⟩ : ∃ gb, w7.heap.size = gb := ⟨_, rfl⟩
      have hgb : w.heap.size ≤ gb := by rw [← hgbe]; exact M7.out.size
      rw [hgbe] at B8 ⊢
      clear e0 hgbe
      go_loopw [13] (fun x W0 => ∃ (i : Nat) (W : List (Nat × List UInt8)) (bs : List Bool), i ≤ m ∧ x = .int .i64 (i : Int) ∧ DiskAt W0 w.heap.size db (live L1 W) ∧ Blk W0 gb 4 (bools bs).toArray ∧ bs.length = j ∧ W.length = i ∧ Noted bs W ∧ Mods Nil w W0) (fun x _ => m - (intOf x).toNat)
      case atStart => exact ⟨0, [], _, Nat.zero_le _, rfl, D8.out, B8.out, by simp, rfl, (fun i h x hx => by cases hx), M88.out⟩
      case round =>
        clear D7 D8 B8 HD HMO HSY
        obtain ⟨i, W, bs, hi, rfl, hd, hb, hbl, hWl, hno, hmo⟩ := hrel
        have HD := Lib.hid hd
        have HB := Lib.hid hb
        have HBL := Lib.hid hbl
        have HWL := Lib.hid hWl
        have HNO := Lib.hid hno
        have HMO := Lib.hid hmo
        clear hd hb hbl hWl hno hmo
        by_cases hlt : i < m
        · have hltI : (i : Int) < (m : Int) := by omega
          have hi1' : i + 1 ≤ m := hlt
          have hiE : m - (i + 1) < m - i := by omega
          have hiy : i < ys.length := by rw [HM.out]; exact hlt
          obtain ⟨bx, ox, rfl, -, -⟩ := HP.out.at_ (by simp; omega)
          have HCX := Lib.hid (bts_get ys i hiy)
          obtain ⟨a, ha⟩ : ∃ a, ys[i]'hiy = a := ⟨_, rfl⟩
          rw [ha] at HCX
          obtain ⟨y, hy⟩ : ∃ y, a.toNat = y := ⟨_, rfl⟩
          rw [hy] at HCX
          have cx := (HP.out.mods HMO.out (fun _ _ h => h)).cells i _ HCX.out
          have hy256 : y < 256 := by rw [← hy]; exact a.toNat_lt
          have hwy : IntKind.i64.wrap (y : Int) = (y : Int) := by rw [IntKind.wrap_i64]; omega
          obtain ⟨k, hk⟩ : ∃ k, y % j = k := ⟨_, rfl⟩
          have hkj : k < j := by rw [← hk]; exact Nat.mod_lt _ (by omega)
          have hkI : (k : Int) < (j : Int) := by omega
          have hrem : Int.tmod (y : Int) (j : Int) = (k : Int) := by rw [Int.tmod_eq_emod_of_nonneg (by omega), ← hk]; simp
          have hwk : IntKind.i64.wrap (k : Int) = (k : Int) := by rw [IntKind.wrap_i64]; omega
          obtain ⟨F, hF⟩ : ∃ F, fillP [a, 2, 3] = F := ⟨_, rfl⟩
          have hFl : F.length = 64 := by rw [← hF]; exact fillP_length _
          have HF := Lib.hid hF
          have HFI := Lib.hid (filled_any (bytes_three wr (a := a) (b := 2) (c := 3) hy (z := 2) (v := 3) rfl rfl) rfl false)
          have HWR : Hid (∀ W5 g5, DiskAt W5 w.heap.size db (live L1 W) → Blk W5 g5 5 (bts F).toArray → Calls Try.prog 13 #[.pointer (some ⟨db, 0, none⟩), .int .i64 (k : Int), .slice (some ⟨g5, 0, none⟩) 64 64] W5 fun e w' => e = .returned (.int .i64 0) ∧ DiskAt w' w.heap.size db (live L1 (W ++ [(k, F)])) ∧ DM w.heap.size W5 w') := Lib.hid (fun W5 g5 h hb => by
            have := lwrite h (by rw [HWL.out]; omega) (i := (k : Int)) (by omega) (by rw [HF1.out.1]; omega) (Bs.blk hb hFl) hFl rfl
            exact this)
          have HN2 := Lib.hid (HNO.out.next (k := k) (F := F))
          have hkb : k < bs.length := by rw [HBL.out]; exact hkj
          have HKB := Lib.hid hkb
          clear hF hFl ha hk hy hy256 hkb
          clear hiy
          go_wp2_with (first
            | (go_at_call 12; refine (HFI.out).mono ?_; rintro e w5 ⟨g5, rfl, b5, s5, m5⟩; rw [HF.out] at b5; have B5 := Lib.hid b5; have D5 := Lib.hid ((HD.out.nil ((Mods.refl Nil wr).alloc _)).nil m5); have BB5 := Lib.hid ((HB.out.alloc _).mods m5 (fun h => h)); have M5 := Lib.hid ((HMO.out.alloc _).trans m5); clear b5 s5 m5)
            | (go_at_call 13; refine (HWR.out _ _ D5.out B5.out).mono ?_; rintro e w6 ⟨rfl, d6, m6⟩; have bb6 := BB5.out.dm m6 (by decide); have cb6 : w6.cell? ⟨gb, k, none⟩ = some (.bool (bs[k]'HKB.out)) := (by rw [bb6.cell]; simp [bools, HKB.out]); generalize (bs[k]'HKB.out) = bk at cb6; have fb6 := bb6.frozen k; have bb7 := bb6.set_ k (.bool true); rw [show (bools bs).toArray.setIfInBounds k (.bool true) = (bools (bs.set k true)).toArray by simp [bools, List.map_set]] at bb7; have BB7 := Lib.hid bb7; have D7 := Lib.hid (d6.typed (S := fun i => i = gb) (Mods.setCell (S := fun i => i = gb) (p := ⟨gb, k, none⟩) (Mods.refl _ _) (fun _ => rfl) (.bool true)) (fun i hk _ => by subst hk; exact ⟨_, _, bb6, by decide, by decide, by decide⟩)); have M7 := Lib.hid ((DM.nilTrans M5.out (Nat.le_refl _) m6).setNew (p := ⟨gb, k, none⟩) hgb (.bool true)); clear d6 m6 bb6 bb7))
          exact ⟨⟨i + 1, _, _, hi1', by go_num, D7.out, BB7.out, by simp [HBL.out], by simp [HWL.out], HN2.out, M7.out⟩, by simp [intOf]; omega⟩
        · obtain rfl : i = m := by omega
          obtain ⟨L2, hL2⟩ : ∃ L2, crashL L1 W pick = L2 := ⟨_, rfl⟩
          have HL2 := Lib.hid hL2
          have HL2l : Hid (L2.length = j) := Lib.hid (by rw [← hL2, crashL_length]; exact HF1.out.1)
          have HWT := Lib.hid (lwaits HD.out (k := (i : Int)) (by rw [HWL.out]))
          have HC : Hid (∀ W0, Mods Nil w W0 → DiskAt W0 w.heap.size db (live L1 W) → Calls Try.prog 19 #[.pointer (some ⟨db, 0, none⟩), .slice A2 p c2] W0 fun e w' => e = .returned (.tuple #[]) ∧ DiskAt w' w.heap.size db (live L2 []) ∧ DM w.heap.size W0 w') := Lib.hid (fun W0 hW h => by
            have := lcrash h ((Bs.arg (base := w.heap.size) HK.out (Nat.le_refl _)).nil hW) HPL.out
            rw [hL2] at this
            exact this)
          clear hL2 hlt hi
          go_wp2_with (first
            | (go_at_call 22; refine (HWT.out).mono ?_; rintro e w8 ⟨rfl, rfl⟩)
            | (go_at_call 19; refine (HC.out _ HMO.out HD.out).mono ?_; rintro e w9 ⟨rfl, d9, m9⟩; have D9 := Lib.hid d9; have B9 := Lib.hid (HB.out.dm m9 (by decide)); have M9 := Lib.hid (DM.nilTrans HMO.out (Nat.le_refl _) m9); clear d9 m9))
          go_loopw [15] (fun x W0 => ∃ (q : Nat), q ≤ j ∧ x = .int .i64 (q : Int) ∧ DiskAt W0 w.heap.size db (live L2 []) ∧ Blk W0 gb 4 (bools bs).toArray ∧ Mods Nil w W0) (fun x _ => j - (intOf x).toNat)
          case atStart => exact ⟨0, Nat.zero_le _, rfl, D9.out, B9.out, M9.out⟩
          case round =>
            clear D9 B9 M9 HD HB HMO HC HWT
            obtain ⟨q, hq, rfl, hd, hb, hmo⟩ := hrel
            have HD := Lib.hid hd
            have HB := Lib.hid hb
            have HMO := Lib.hid hmo
            clear hd hb hmo
            by_cases hlt : q < j
            · have hltI : (q : Int) < (j : Int) := by omega
              have hq1 : q + 1 ≤ j := hlt
              have hqE : j - (q + 1) < j - q := by omega
              have hqx : q < xs.length := by rw [HN.out]; exact hlt
              have hqb : q < bs.length := by rw [HBL.out]; exact hlt
              obtain ⟨bx, ox, rfl, -, -⟩ := HS.out.at_ (by simp; omega)
              have HCX := Lib.hid (bts_get xs q hqx)
              obtain ⟨a, ha⟩ : ∃ a, xs[q]'hqx = a := ⟨_, rfl⟩
              rw [ha] at HCX
              obtain ⟨y, hy⟩ : ∃ y, a.toNat = y := ⟨_, rfl⟩
              rw [hy] at HCX
              obtain ⟨bq, hbq⟩ : ∃ bq, bs[q]'hqb = bq := ⟨_, rfl⟩
              have HCB : Hid (wr.cell? ⟨gb, q, none⟩ = some (.bool bq)) := Lib.hid (by rw [HB.out.cell, ← hbq]; simp [bools, hqb])
              have hF0 : fillP [a, 1] = aP xs q := by unfold aP; rw [← ha]; simp [hqx]
              obtain ⟨X, hX0⟩ : ∃ X, L2.getD q [] = X := ⟨_, rfl⟩
              have hX : (lastW ((q : Int).toNat) []).getD (L2.getD ((q : Int).toNat) []) = X := hX0
              have hXF : (bq = false ∨ p = 0) → X = aP xs q := fun h => by
                have e1 : L2[q]? = L1[q]? := by
                  rcases h with h | h
                  · rw [← HL2.out]
                    exact crashL_other L1 W pick (HNO.out q (by rw [List.getElem?_eq_getElem hqb, hbq, h]))
                  · have : pick = [] := List.eq_nil_of_length_eq_zero (by rw [HPL.out, h])
                    rw [← HL2.out, this, crashL_nil]
                rw [← hX0, List.getD_eq_getElem?_getD, e1, HF1.out.2 q hlt]
                rfl
              obtain ⟨F, hFF⟩ : ∃ F, aP xs q = F := ⟨_, rfl⟩
              rw [hFF] at hF0 hXF
              have HF := Lib.hid hF0
              have HFL : Hid (F.length = 64) := Lib.hid (by rw [← hFF]; exact aP_length _ _)
              clear hX0 hbq ha hF0 hFF
              clear hqx hqb
              by_cases hp0 : p = 0
              · obtain rfl : X = F := hXF (.inr hp0)
                subst hp0
                clear hXF
                cases bq with
                | true =>
                  have HRD := Lib.hid (lread HD.out (i := (q : Int)) (b := X) (by omega) (by rw [HL2l.out]; omega) hX)
                  have HX := Lib.hid hX
                  clear hX
                  go_wp2_with (go_at_call 23; refine (HRD.out).mono ?_; rintro e w10 ⟨A10, c10, m10, rfl, h10, rfl, s10, k10⟩; have S10 := Lib.hid s10; have K10 := Lib.hid k10; have H10 := Lib.hid h10; clear s10 k10 h10)
                  have v1 := fun W (h : Mods Nil w10 W) => conv6 H10.out (S10.out.mods h (fun _ _ h => h))
                  have cw := fun W (h : Mods Nil w10 W) => (World.cell?_of_block ((K10.out.trans h).block gb (World.block_lt_of_cell? wr _ HCB.out) (fun h => h))).trans HCB.out
                  have cx := fun W (h : Mods Nil w10 W) => (HS.out.mods ((HMO.out.trans K10.out).trans h) (fun _ _ h => h)).cells q _ HCX.out
                  have cw0 := cw w10 (Mods.refl _ _)
                  go_quiet (fail)
                  have hq34 : Mods Nil w10 (w10.drewN nq) := (Mods.refl Nil w10).drewN nq
                  all_goals
                    go_wp2_with fail
                    go_region_held (fun W => Mods Nil w10 W) (first | assumption | exact (Mods.refl Nil w10).drew | exact ((Mods.refl Nil w10).alloc _).drew | exact ((Mods.refl Nil w10).drewN _).drew | exact ((Mods.refl Nil w10).drewN _).alloc _ | exact (((Mods.refl Nil w10).drewN _).alloc _).drew | exact Mods.drew (by assumption) | exact Mods.alloc (by assumption) _ | exact (Mods.alloc (by assumption) _).drew | exact (Mods.drewN (by assumption) _).alloc _) (first | (go_at_call 12; refine (filled_any (xs := [a, 1]) (by first | exact bytes_two _ hy (b := 1) (z := 1) rfl | exact (bytes_two _ hy (b := 1) (z := 1) rfl).drew | exact (bytes_two _ hy (b := 1) (z := 1) rfl).drewN _) rfl false).mono ?_; rintro e w12 ⟨g12, rfl, b12, s12, m12⟩; rw [HF.out] at b12; have hm12 : Mods Nil w10 w12 := (Mods.trans (by first | assumption | exact (Mods.refl Nil w10).drew | exact ((Mods.refl Nil w10).alloc _).drew | exact ((Mods.refl Nil w10).drewN _).drew | exact ((Mods.refl Nil w10).drewN _).alloc _ | exact (((Mods.refl Nil w10).drewN _).alloc _).drew | exact Mods.drew (by assumption) | exact Mods.alloc (by assumption) _ | exact (Mods.alloc (by assumption) _).drew | exact (Mods.drewN (by assumption) _).alloc _) m12); have cv12 := conv6 HFL.out (Bs.blk (base := 0) b12 HFL.out).1; clear b12 s12 m12))
                    all_goals
                      go_wp2_with fail
                      exact ⟨⟨q + 1, hq1, by go_num, (HD.out.nil K10.out).nil (by first | assumption | exact (Mods.refl Nil w10).drewN _ | exact Mods.drewN (by assumption) _ | exact Mods.drewN ((Mods.refl Nil w10).drewN _) _), (HB.out.mods K10.out (fun h => h)).mods (S := Nil) (by first | assumption | exact (Mods.refl Nil w10).drewN _ | exact Mods.drewN (by assumption) _ | exact Mods.drewN ((Mods.refl Nil w10).drewN _) _) (fun h => h), (HMO.out.trans K10.out).trans (by first | assumption | exact (Mods.refl Nil w10).drewN _ | exact Mods.drewN (by assumption) _ | exact Mods.drewN ((Mods.refl Nil w10).drewN _) _)⟩, by simp [intOf]; omega⟩
                | false =>
                  have HRD := Lib.hid (lread HD.out (i := (q : Int)) (b := X) (by omega) (by rw [HL2l.out]; omega) hX)
                  have HX := Lib.hid hX
                  clear hX
                  go_wp2_with (go_at_call 23; refine (HRD.out).mono ?_; rintro e w10 ⟨A10, c10, m10, rfl, h10, rfl, s10, k10⟩; have S10 := Lib.hid s10; have K10 := Lib.hid k10; have H10 := Lib.hid h10; clear s10 k10 h10)
                  have v1 := fun W (h : Mods Nil w10 W) => conv6 H10.out (S10.out.mods h (fun _ _ h => h))
                  have cw := fun W (h : Mods Nil w10 W) => (World.cell?_of_block ((K10.out.trans h).block gb (World.block_lt_of_cell? wr _ HCB.out) (fun h => h))).trans HCB.out
                  have cx := fun W (h : Mods Nil w10 W) => (HS.out.mods ((HMO.out.trans K10.out).trans h) (fun _ _ h => h)).cells q _ HCX.out
                  go_region_held (fun W => Mods Nil w10 W) (first | assumption | exact (Mods.refl Nil w10).drew | exact ((Mods.refl Nil w10).alloc _).drew | exact ((Mods.refl Nil w10).drewN _).drew | exact ((Mods.refl Nil w10).drewN _).alloc _ | exact (((Mods.refl Nil w10).drewN _).alloc _).drew | exact Mods.drew (by assumption) | exact Mods.alloc (by assumption) _ | exact (Mods.alloc (by assumption) _).drew | exact (Mods.drewN (by assumption) _).alloc _) (first | (go_at_call 12; refine (filled_any (xs := [a, 1]) (by first | exact bytes_two _ hy (b := 1) (z := 1) rfl | exact (bytes_two _ hy (b := 1) (z := 1) rfl).drew | exact (bytes_two _ hy (b := 1) (z := 1) rfl).drewN _) rfl false).mono ?_; rintro e w11 ⟨g11, rfl, b11, s11, m11⟩; rw [HF.out] at b11; have hm11 : Mods Nil w10 w11 := (Mods.trans (by first | assumption | exact (Mods.refl Nil w10).drew | exact ((Mods.refl Nil w10).alloc _).drew | exact ((Mods.refl Nil w10).drewN _).drew | exact ((Mods.refl Nil w10).drewN _).alloc _ | exact (((Mods.refl Nil w10).drewN _).alloc _).drew | exact Mods.drew (by assumption) | exact Mods.alloc (by assumption) _ | exact (Mods.alloc (by assumption) _).drew | exact (Mods.drewN (by assumption) _).alloc _) m11); have cv11 := conv6 HFL.out (Bs.blk (base := 0) b11 HFL.out).1; clear b11 s11 m11))
                  all_goals
                    go_wp2_with fail
                    go_region_held (fun W => Mods Nil w10 W) (first | assumption | exact (Mods.refl Nil w10).drew | exact ((Mods.refl Nil w10).alloc _).drew | exact ((Mods.refl Nil w10).drewN _).drew | exact ((Mods.refl Nil w10).drewN _).alloc _ | exact (((Mods.refl Nil w10).drewN _).alloc _).drew | exact Mods.drew (by assumption) | exact Mods.alloc (by assumption) _ | exact (Mods.alloc (by assumption) _).drew | exact (Mods.drewN (by assumption) _).alloc _) (first | (go_at_call 12; refine (filled_any (xs := [a, 1]) (by first | exact bytes_two _ hy (b := 1) (z := 1) rfl | exact (bytes_two _ hy (b := 1) (z := 1) rfl).drew | exact (bytes_two _ hy (b := 1) (z := 1) rfl).drewN _) rfl false).mono ?_; rintro e w12 ⟨g12, rfl, b12, s12, m12⟩; rw [HF.out] at b12; have hm12 : Mods Nil w10 w12 := (Mods.trans (by first | assumption | exact (Mods.refl Nil w10).drew | exact ((Mods.refl Nil w10).alloc _).drew | exact ((Mods.refl Nil w10).drewN _).drew | exact ((Mods.refl Nil w10).drewN _).alloc _ | exact (((Mods.refl Nil w10).drewN _).alloc _).drew | exact Mods.drew (by assumption) | exact Mods.alloc (by assumption) _ | exact (Mods.alloc (by assumption) _).drew | exact (Mods.drewN (by assumption) _).alloc _) m12); have cv12 := conv6 HFL.out (Bs.blk (base := 0) b12 HFL.out).1; clear b12 s12 m12))
                    all_goals
                      go_wp2_with fail
                      exact ⟨⟨q + 1, hq1, by go_num, (HD.out.nil K10.out).nil (by first | assumption | exact (Mods.refl Nil w10).drewN _ | exact Mods.drewN (by assumption) _ | exact Mods.drewN ((Mods.refl Nil w10).drewN _) _), (HB.out.mods K10.out (fun h => h)).mods (S := Nil) (by first | assumption | exact (Mods.refl Nil w10).drewN _ | exact Mods.drewN (by assumption) _ | exact Mods.drewN ((Mods.refl Nil w10).drewN _) _) (fun h => h), (HMO.out.trans K10.out).trans (by first | assumption | exact (Mods.refl Nil w10).drewN _ | exact Mods.drewN (by assumption) _ | exact Mods.drewN ((Mods.refl Nil w10).drewN _) _)⟩, by simp [intOf]; omega⟩
              · have hp0I : decide ((p : Int) = 0) = false := by simp; omega
                have hp0J : ¬ ((p : Int) = 0) := by omega
                cases bq with
                | true =>
                  clear hXF
                  have HRD := Lib.hid (lread HD.out (i := (q : Int)) (b := X) (by omega) (by rw [HL2l.out]; omega) hX)
                  have HX := Lib.hid hX
                  clear hX
                  go_wp2_with (go_at_call 23; refine (HRD.out).mono ?_; rintro e w10 ⟨A10, c10, m10, rfl, h10, rfl, s10, k10⟩; have S10 := Lib.hid s10; have K10 := Lib.hid k10; have H10 := Lib.hid h10; clear s10 k10 h10)
                  have v1 := fun W (h : Mods Nil w10 W) => conv6 H10.out (S10.out.mods h (fun _ _ h => h))
                  have cw := fun W (h : Mods Nil w10 W) => (World.cell?_of_block ((K10.out.trans h).block gb (World.block_lt_of_cell? wr _ HCB.out) (fun h => h))).trans HCB.out
                  have cx := fun W (h : Mods Nil w10 W) => (HS.out.mods ((HMO.out.trans K10.out).trans h) (fun _ _ h => h)).cells q _ HCX.out
                  have cw0 := cw w10 (Mods.refl _ _)
                  go_quiet (fail)
                  have hq34 : Mods Nil w10 (w10.drewN nq) := (Mods.refl Nil w10).drewN nq
                  all_goals
                    go_wp2_with fail
                    go_quiet (fail)
                    all_goals
                      go_wp2_with fail
                      exact ⟨⟨q + 1, hq1, by go_num, (HD.out.nil K10.out).nil (by first | assumption | exact (Mods.refl Nil w10).drewN _ | exact Mods.drewN (by assumption) _ | exact Mods.drewN ((Mods.refl Nil w10).drewN _) _), (HB.out.mods K10.out (fun h => h)).mods (S := Nil) (by first | assumption | exact (Mods.refl Nil w10).drewN _ | exact Mods.drewN (by assumption) _ | exact Mods.drewN ((Mods.refl Nil w10).drewN _) _) (fun h => h), (HMO.out.trans K10.out).trans (by first | assumption | exact (Mods.refl Nil w10).drewN _ | exact Mods.drewN (by assumption) _ | exact Mods.drewN ((Mods.refl Nil w10).drewN _) _)⟩, by simp [intOf]; omega⟩
                | false =>
                  obtain rfl : X = F := hXF (.inl rfl)
                  clear hXF
                  have HRD := Lib.hid (lread HD.out (i := (q : Int)) (b := X) (by omega) (by rw [HL2l.out]; omega) hX)
                  have HX := Lib.hid hX
                  clear hX
                  go_wp2_with (go_at_call 23; refine (HRD.out).mono ?_; rintro e w10 ⟨A10, c10, m10, rfl, h10, rfl, s10, k10⟩; have S10 := Lib.hid s10; have K10 := Lib.hid k10; have H10 := Lib.hid h10; clear s10 k10 h10)
                  have v1 := fun W (h : Mods Nil w10 W) => conv6 H10.out (S10.out.mods h (fun _ _ h => h))
                  have cw := fun W (h : Mods Nil w10 W) => (World.cell?_of_block ((K10.out.trans h).block gb (World.block_lt_of_cell? wr _ HCB.out) (fun h => h))).trans HCB.out
                  have cx := fun W (h : Mods Nil w10 W) => (HS.out.mods ((HMO.out.trans K10.out).trans h) (fun _ _ h => h)).cells q _ HCX.out
                  go_region_held (fun W => Mods Nil w10 W) (first | assumption | exact (Mods.refl Nil w10).drew | exact ((Mods.refl Nil w10).alloc _).drew | exact ((Mods.refl Nil w10).drewN _).drew | exact ((Mods.refl Nil w10).drewN _).alloc _ | exact (((Mods.refl Nil w10).drewN _).alloc _).drew | exact Mods.drew (by assumption) | exact Mods.alloc (by assumption) _ | exact (Mods.alloc (by assumption) _).drew | exact (Mods.drewN (by assumption) _).alloc _) (first | (go_at_call 12; refine (filled_any (xs := [a, 1]) (by first | exact bytes_two _ hy (b := 1) (z := 1) rfl | exact (bytes_two _ hy (b := 1) (z := 1) rfl).drew | exact (bytes_two _ hy (b := 1) (z := 1) rfl).drewN _) rfl false).mono ?_; rintro e w11 ⟨g11, rfl, b11, s11, m11⟩; rw [HF.out] at b11; have hm11 : Mods Nil w10 w11 := (Mods.trans (by first | assumption | exact (Mods.refl Nil w10).drew | exact ((Mods.refl Nil w10).alloc _).drew | exact ((Mods.refl Nil w10).drewN _).drew | exact ((Mods.refl Nil w10).drewN _).alloc _ | exact (((Mods.refl Nil w10).drewN _).alloc _).drew | exact Mods.drew (by assumption) | exact Mods.alloc (by assumption) _ | exact (Mods.alloc (by assumption) _).drew | exact (Mods.drewN (by assumption) _).alloc _) m11); have cv11 := conv6 HFL.out (Bs.blk (base := 0) b11 HFL.out).1; clear b11 s11 m11))
                  all_goals
                    go_wp2_with fail
                    go_quiet (fail)
                    all_goals
                      go_wp2_with fail
                      exact ⟨⟨q + 1, hq1, by go_num, (HD.out.nil K10.out).nil (by first | assumption | exact (Mods.refl Nil w10).drewN _ | exact Mods.drewN (by assumption) _ | exact Mods.drewN ((Mods.refl Nil w10).drewN _) _), (HB.out.mods K10.out (fun h => h)).mods (S := Nil) (by first | assumption | exact (Mods.refl Nil w10).drewN _ | exact Mods.drewN (by assumption) _ | exact Mods.drewN ((Mods.refl Nil w10).drewN _) _) (fun h => h), (HMO.out.trans K10.out).trans (by first | assumption | exact (Mods.refl Nil w10).drewN _ | exact Mods.drewN (by assumption) _ | exact Mods.drewN ((Mods.refl Nil w10).drewN _) _)⟩, by simp [intOf]; omega⟩
            · obtain rfl : q = j := by omega
              go_wp2_with (first
                | (go_at_call 22; refine (lwaits HD.out (k := 0) rfl).mono ?_; rintro e w8 ⟨rfl, rfl⟩)
                | (go_at_call 24; refine (ldown HD.out).mono ?_; rintro e w9 ⟨rfl, rfl⟩))
              go_ret
              exact ⟨rfl, HMO.out⟩
end Go.Proofs.Ytahahnapnfalcaa
