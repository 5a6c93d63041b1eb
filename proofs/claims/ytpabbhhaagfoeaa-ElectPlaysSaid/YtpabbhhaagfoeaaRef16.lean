/- The reference of layer 16: New, Tick, Heard, by value. -/
import Derived.Test.YtpabbhhaagfoeaaElc1
namespace Go.Proofs.Ytpabbhhaagfoeaa
set_option maxRecDepth 100000
open Go.RowKit
set_option linter.unusedVariables false
set_option linter.unusedSimpArgs false

/-- The reference's value. -/
@[reducible] def EV (turn left top : Nat) : Value := .agg #[.int .i64 (turn : Int), .int .i64 (left : Int), .int .u64 (top : Int)]

theorem r16new_bad (w : World) {n p : Int} (h : ¬ eMay n p) : Calls Try.prog 30 #[.int .i64 n, .int .i64 p] w fun e w' => e = .returned (.tuple #[.agg #[.int .i64 0, .int .i64 0, .int .u64 0], .bool false]) ∧ Mods Nil w w' := by
  have HQ : Hid (¬ eMay n p) := Lib.hid h
  clear h
  by_cases h0 : n < 0
  · have hd : decide (n < 0) = true := by simp; omega
    go_enter Try.func30, Try.ntmps30
    go_wp2
    refine bodyPost_ret (v := .tuple #[.agg #[.int .i64 0, .int .i64 0, .int .u64 0], .bool false]) (by simp [results, Try.results30, go_sem]) rfl ⟨rfl, (Mods.refl Nil w).alloc _⟩
  by_cases h1 : 31 < n
  · have hd : decide (n < 0) = false := by simp; omega
    have hd1 : decide (31 < n) = true := by simp; omega
    go_enter Try.func30, Try.ntmps30
    go_wp2
    refine bodyPost_ret (v := .tuple #[.agg #[.int .i64 0, .int .i64 0, .int .u64 0], .bool false]) (by simp [results, Try.results30, go_sem]) rfl ⟨rfl, (Mods.refl Nil w).alloc _⟩
  have hd : decide (n < 0) = false := by simp; omega
  have hd1 : decide (31 < n) = false := by simp; omega
  by_cases h2 : p < 1
  · have hd2 : decide (p < 1) = true := by simp; omega
    go_enter Try.func30, Try.ntmps30
    go_wp2
    refine bodyPost_ret (v := .tuple #[.agg #[.int .i64 0, .int .i64 0, .int .u64 0], .bool false]) (by simp [results, Try.results30, go_sem]) rfl ⟨rfl, (Mods.refl Nil w).alloc _⟩
  have hd2 : decide (p < 1) = false := by simp; omega
  by_cases h3 : 1000 < p
  · have hd3 : decide (1000 < p) = true := by simp; omega
    go_enter Try.func30, Try.ntmps30
    go_wp2
    refine bodyPost_ret (v := .tuple #[.agg #[.int .i64 0, .int .i64 0, .int .u64 0], .bool false]) (by simp [results, Try.results30, go_sem]) rfl ⟨rfl, (Mods.refl Nil w).alloc _⟩
  · exact absurd ⟨by omega, by omega, by omega, by omega⟩ HQ.out

theorem r16new_ok (w : World) {n p : Nat} (hn : n ≤ 31) (hp : 1 ≤ p) (hp' : p ≤ 1000) : Calls Try.prog 30 #[.int .i64 (n : Int), .int .i64 (p : Int)] w fun e w' => e = .returned (.tuple #[EV (p * (n + 1)) (p * (n + 1)) 0, .bool true]) ∧ Mods Nil w w' := by
  have hd : decide ((n : Int) < 0) = false := by simp
  have hd1 : decide (31 < (n : Int)) = false := by simp; omega
  have hd1N : decide (31 < n) = false := by simp; omega
  have hd2 : decide ((p : Int) < 1) = false := by simp; omega
  have hd2N : decide (p < 1) = false := by simp; omega
  have hd3 : decide (1000 < (p : Int)) = false := by simp; omega
  have hd3N : decide (1000 < p) = false := by simp; omega
  have hT := eTurn_le hn hp'
  obtain ⟨t, ht⟩ : ∃ t, p * (n + 1) = t := ⟨_, rfl⟩
  rw [ht]
  have HT := Lib.hid ht
  have HP := Lib.hid hp'
  have HN := Lib.hid hn
  obtain ⟨g, hg⟩ : ∃ g, w.heap.size = g := ⟨_, rfl⟩
  obtain ⟨W, hW⟩ : ∃ W, w.alloc (.cells #[.int .i64 0, .int .i64 0, .int .u64 0] 71) = W := ⟨_, rfl⟩
  have HB : Hid (Blk W g 71 #[.int .i64 0, .int .i64 0, .int .u64 0]) := Lib.hid (by rw [← hW, ← hg]; exact Blk.new w _ _)
  have HM : Hid (Mods Nil w W) := Lib.hid (by rw [← hW]; exact (Mods.refl Nil w).alloc _)
  have c0 := HB.out.cell 0
  have c1 := HB.out.cell 1
  have c2 := HB.out.cell 2
  have z0 := HB.out.frozen 0
  have z1 := HB.out.frozen 1
  have z2 := HB.out.frozen 2
  have HG : Hid (w.heap.size ≤ g) := Lib.hid (by omega)
  clear ht hn hp hp' hT
  go_enter Try.func30, Try.ntmps30
  go_wp2_with fail
  go_loopw [6, 7] (fun x y wr => ∃ i : Nat, y = .int .i64 (i : Int) ∧ x = .int .i64 ((p * i : Nat) : Int) ∧ i ≤ n + 1 ∧ wr = W) (fun _ y _ => n + 1 - (intOf y).toNat)
  case atStart => exact ⟨0, rfl, by simp, by omega, rfl⟩
  case round =>
    obtain ⟨i, rfl, rfl, hi, rfl⟩ := hrel
    have hm := eTurn_le (show i - 1 ≤ 31 by have := HN.out; omega) HP.out
    have hm2 : p * i ≤ p * (i - 1 + 1) := Nat.mul_le_mul_left _ (by omega)
    obtain ⟨s, hs⟩ : ∃ s, p * i = s := ⟨_, rfl⟩
    have hs2 : p * (i + 1) = s + p := by rw [Nat.mul_succ, hs]
    rw [hs] at hm2 ⊢
    have hs3 : s ≤ 32000 := by omega
    have HS := Lib.hid hs
    have HS2 := Lib.hid hs2
    have hp1 := HP.out
    clear hm hm2 hs hs2
    by_cases hgo : i ≤ n
    · have hgI : decide ((i : Int) ≤ (n : Int)) = true := by simp; omega
      have hgN : decide (i ≤ n) = true := by simp; omega
      have hn31 := HN.out
      go_wp2_with fail
      refine ⟨⟨i + 1, by go_num, by rw [HS2.out]; go_num, by omega, trivial⟩, by simp [intOf]; omega⟩
    · have hgI : decide ((i : Int) ≤ (n : Int)) = false := by simp; omega
      have hgN : decide (i ≤ n) = false := by simp; omega
      obtain rfl : i = n + 1 := by omega
      obtain rfl : s = t := by rw [← HS.out, HT.out]
      clear hgo hi hp1 hs3
      go_wp2_with fail
      have D := ((HB.out.set_ 0 (.int .i64 s)).set_ 1 (.int .i64 s)).set_ 2 (.int .u64 0)
      have D' : Mods Nil w (((wr.setCell ⟨g, 0, none⟩ (.int .i64 s)).setCell ⟨g, 1, none⟩ (.int .i64 s)).setCell ⟨g, 2, none⟩ (.int .u64 0)) := ((HM.out.setCell (p := ⟨g, 0, none⟩) (fun h => absurd h (Nat.not_lt.2 HG.out)) _).setCell (p := ⟨g, 1, none⟩) (fun h => absurd h (Nat.not_lt.2 HG.out)) _).setCell (p := ⟨g, 2, none⟩) (fun h => absurd h (Nat.not_lt.2 HG.out)) _
      obtain ⟨V, hV⟩ : ∃ V, (((wr.setCell ⟨g, 0, none⟩ (.int .i64 s)).setCell ⟨g, 1, none⟩ (.int .i64 s)).setCell ⟨g, 2, none⟩ (.int .u64 0)) = V := ⟨_, rfl⟩
      rw [hV] at D D' ⊢
      have d0 := D.cell 0
      have d1 := D.cell 1
      have d2 := D.cell 2
      refine bodyPost_ret (v := .tuple #[EV s s 0, .bool true]) (by simp [results, Try.results30, go_sem, d0, d1, d2]) rfl ⟨rfl, D'⟩

theorem two_blk16 (w : World) (A : Obj) (t : TypeId) (cs : Array Value) : Blk ((w.alloc A).alloc (.cells cs t)) (w.heap.size + 1) t cs := by
  rw [← World.size_alloc w A]; exact Blk.new _ _ _

theorem r16tick_any (w : World) {turn left top : Nat} (hk : EOk turn left) : Calls Try.prog 32 #[EV turn left top] w fun e w' => e = .returned (.tuple #[EV turn (eLeft turn left) top, .bool (decide (left ≤ 1))]) ∧ Mods Nil w w' := by
  obtain ⟨h1, h2, h3⟩ := hk
  have key : ∀ l r, eLeft turn left = l → decide (left ≤ 1) = r → Calls Try.prog 32 #[EV turn left top] w fun e w' => e = .returned (.tuple #[EV turn l top, .bool r]) ∧ Mods Nil w w' := by
    intro l r hl hr
    unfold eLeft at hl
    have D := two_blk16 w (.cells #[.int .i64 (turn : Int), .int .i64 (l : Int), .int .u64 (top : Int)] 71) 71 #[.int .i64 (turn : Int), .int .i64 (l : Int), .int .u64 (top : Int)]
    have D' := ((Mods.refl Nil w).alloc (.cells #[.int .i64 (turn : Int), .int .i64 (l : Int), .int .u64 (top : Int)] 71)).alloc (.cells #[.int .i64 (turn : Int), .int .i64 (l : Int), .int .u64 (top : Int)] 71)
    obtain ⟨V, hV⟩ : ∃ V, (w.alloc (.cells #[.int .i64 (turn : Int), .int .i64 (l : Int), .int .u64 (top : Int)] 71)).alloc (.cells #[.int .i64 (turn : Int), .int .i64 (l : Int), .int .u64 (top : Int)] 71) = V := ⟨_, rfl⟩
    rw [hV] at D D'
    have DH := Lib.hid D
    have DM := Lib.hid D'
    clear D D'
    have HV := Lib.hid hV
    clear hV
    by_cases hle : left ≤ 1
    · rw [if_pos hle] at hl
      subst hl
      obtain rfl : r = true := by rw [← hr]; simp; omega
      have hgt : decide (1 < (left : Int)) = false := by simp; omega
      have hgtN : decide (1 < left) = false := by simp; omega
      clear hr hle h1 h2 h3
      go_enter Try.func32, Try.ntmps32
      go_wp2_with fail
      rw [HV.out]
      have d0 := DH.out.cell 0
      have d1 := DH.out.cell 1
      have d2 := DH.out.cell 2
      refine bodyPost_ret (v := .tuple #[EV turn turn top, .bool true]) (by simp [results, Try.results32, go_sem, d0, d1, d2]) rfl ⟨rfl, DM.out⟩
    · rw [if_neg hle] at hl
      obtain rfl : r = false := by rw [← hr]; simp; omega
      have hgt : decide (1 < (left : Int)) = true := by simp; omega
      have hgtN : decide (1 < left) = true := by simp; omega
      have hw : IntKind.i64.wrap ((left : Int) - 1) = (l : Int) := by rw [IntKind.wrap_i64]; omega
      clear hr hle h1 h2 h3 hl
      go_enter Try.func32, Try.ntmps32
      go_wp2_with fail
      rw [HV.out]
      have d0 := DH.out.cell 0
      have d1 := DH.out.cell 1
      have d2 := DH.out.cell 2
      refine bodyPost_ret (v := .tuple #[EV turn l top, .bool false]) (by simp [results, Try.results32, go_sem, d0, d1, d2]) rfl ⟨rfl, DM.out⟩
  exact key _ _ rfl rfl

theorem r16heard_low (w : World) {turn left top x : Nat} (hx : x < top) : Calls Try.prog 34 #[EV turn left top, .int .u64 (x : Int)] w fun e w' => e = .returned (.tuple #[EV turn left top, .bool false]) ∧ Mods Nil w w' := by
  have hd : decide ((x : Int) < (top : Int)) = true := by simp; omega
  have hdN : decide (x < top) = true := by simp; omega
  clear hx
  have D := two_blk16 w (.cells #[.int .i64 (turn : Int), .int .i64 (left : Int), .int .u64 (top : Int)] 71) 71 #[.int .i64 (turn : Int), .int .i64 (left : Int), .int .u64 (top : Int)]
  have D' := ((Mods.refl Nil w).alloc (.cells #[.int .i64 (turn : Int), .int .i64 (left : Int), .int .u64 (top : Int)] 71)).alloc (.cells #[.int .i64 (turn : Int), .int .i64 (left : Int), .int .u64 (top : Int)] 71)
  obtain ⟨V, hV⟩ : ∃ V, (w.alloc (.cells #[.int .i64 (turn : Int), .int .i64 (left : Int), .int .u64 (top : Int)] 71)).alloc (.cells #[.int .i64 (turn : Int), .int .i64 (left : Int), .int .u64 (top : Int)] 71) = V := ⟨_, rfl⟩
  rw [hV] at D D'
  have DH := Lib.hid D
  have DM := Lib.hid D'
  have HV := Lib.hid hV
  clear D D' hV
  go_enter Try.func34, Try.ntmps34
  go_wp2_with fail
  rw [HV.out]
  have d0 := DH.out.cell 0
  have d1 := DH.out.cell 1
  have d2 := DH.out.cell 2
  refine bodyPost_ret (v := .tuple #[EV turn left top, .bool false]) (by simp [results, Try.results34, go_sem, d0, d1, d2]) rfl ⟨rfl, DM.out⟩

theorem r16heard_ok (w : World) {turn left top x : Nat} (hx : top ≤ x) : Calls Try.prog 34 #[EV turn left top, .int .u64 (x : Int)] w fun e w' => e = .returned (.tuple #[EV turn turn x, .bool true]) ∧ Mods Nil w w' := by
  have hd : decide ((x : Int) < (top : Int)) = false := by simp; omega
  have hdN : decide (x < top) = false := by simp; omega
  clear hx
  have D := two_blk16 w (.cells #[.int .i64 (turn : Int), .int .i64 (left : Int), .int .u64 (top : Int)] 71) 71 #[.int .i64 (turn : Int), .int .i64 (turn : Int), .int .u64 (x : Int)]
  have D' := ((Mods.refl Nil w).alloc (.cells #[.int .i64 (turn : Int), .int .i64 (left : Int), .int .u64 (top : Int)] 71)).alloc (.cells #[.int .i64 (turn : Int), .int .i64 (turn : Int), .int .u64 (x : Int)] 71)
  obtain ⟨V, hV⟩ : ∃ V, (w.alloc (.cells #[.int .i64 (turn : Int), .int .i64 (left : Int), .int .u64 (top : Int)] 71)).alloc (.cells #[.int .i64 (turn : Int), .int .i64 (turn : Int), .int .u64 (x : Int)] 71) = V := ⟨_, rfl⟩
  rw [hV] at D D'
  have DH := Lib.hid D
  have DM := Lib.hid D'
  have HV := Lib.hid hV
  clear D D' hV
  go_enter Try.func34, Try.ntmps34
  go_wp2_with fail
  rw [HV.out]
  have d0 := DH.out.cell 0
  have d1 := DH.out.cell 1
  have d2 := DH.out.cell 2
  refine bodyPost_ret (v := .tuple #[EV turn turn x, .bool true]) (by simp [results, Try.results34, go_sem, d0, d1, d2]) rfl ⟨rfl, DM.out⟩
end Go.Proofs.Ytpabbhhaagfoeaa
