/- Package elect: whole, pass, New, Tick, Heard, Top, Left. -/
import Derived.Test.YtpabbhhaagfoeaaBaseM
import Derived.Test.YtpabbhhaagfoeaaMemX
import Derived.Laws.StructEq
import Derived.Deep.RegionHeld
namespace Go.Proofs.Ytpabbhhaagfoeaa
set_option maxRecDepth 100000
open Go.RowKit
set_option linter.unusedVariables false
set_option linter.unusedSimpArgs false

/-- What a tick leaves. -/
def eLeft (turn left : Nat) : Nat := if left ≤ 1 then turn else left - 1
/-- An Elect where it lies. -/
@[reducible] def EA (w : World) (b : Nat) (turn left top : Nat) : Prop := Blk w b 116 #[.int .i64 (turn : Int), .int .i64 (left : Int), .int .u64 (top : Int)]
/-- The numbers that one has. -/
def EOk (turn left : Nat) : Prop := 1 ≤ left ∧ left ≤ turn ∧ turn ≤ 32000
def EN (b : Nat) : Nat → Prop := fun k => k = b

theorem ewhole_any (w : World) (t : Nat) : Calls Try.prog 51 #[.int .i64 (t : Int)] w fun e w' => e = .returned (.agg #[.int .i64 (t : Int), .int .i64 (t : Int)]) ∧ Mods Nil w w' := by
  have HB := Lib.hid (Blk.new w 113 #[.int .i64 (t : Int), .int .i64 (t : Int)])
  go_enter Try.func51, Try.ntmps51
  go_wp2
  refine bodyPost_ret (v := .agg #[.int .i64 (t : Int), .int .i64 (t : Int)]) (by simp [results, Try.results51, go_sem]) rfl ⟨rfl, (Mods.refl Nil w).alloc _⟩

theorem EA.cells {w : World} {b turn left top : Nat} (h : EA w b turn left top) : w.cell? ⟨b, 0, none⟩ = some (.int .i64 (turn : Int)) ∧ w.cell? ⟨b, 1, none⟩ = some (.int .i64 (left : Int)) ∧ w.cell? ⟨b, 2, none⟩ = some (.int .u64 (top : Int)) ∧ w.frozen? ⟨b, 0, none⟩ = false ∧ w.frozen? ⟨b, 1, none⟩ = false ∧ w.frozen? ⟨b, 2, none⟩ = false :=
  ⟨h.cell 0, h.cell 1, h.cell 2, h.frozen 0, h.frozen 1, h.frozen 2⟩

theorem epass_any (w : World) {b turn left top : Nat} (h : EA w b turn left top) (hk : EOk turn left) :
    Calls Try.prog 52 #[.pointer (some ⟨b, 0, none⟩)] w fun e w' => e = .returned (.tuple #[]) ∧ EA w' b turn (eLeft turn left) top ∧ Mods (EN b) w w' := by
  obtain ⟨h1, h2, h3⟩ := hk
  have H := Lib.hid h
  obtain ⟨c0, c1, c2, z0, z1, z2⟩ := h.cells
  clear h
  unfold eLeft
  have hw : IntKind.i64.wrap ((left : Int) - 1) = ((left - 1 : Nat) : Int) := by rw [IntKind.wrap_i64]; omega
  by_cases hl : left ≤ 1
  · rw [if_pos hl]
    obtain rfl : left = 1 := by omega
    clear hw hl
    go_enter Try.func52, Try.ntmps52
    go_wp2_with (first
      | (go_at_call 51; refine (ewhole_any _ _).mono ?_; rintro e w1 ⟨rfl, m1⟩; have B1 : Hid (EA w1 b turn 0 top) := Lib.hid ((H.out.set_ 1 (.int .i64 0)).mods m1 (fun h => h)); have M1 : Hid (Mods (EN b) w w1) := Lib.hid (((Mods.refl (EN b) w).setCell (p := ⟨b, 1, none⟩) (fun _ => rfl) (.int .i64 0)).trans (m1.mono (fun _ _ h => h.elim))); obtain ⟨d0, d1, d2, y0, y1, y2⟩ := B1.out.cells; clear m1 c0 c1 c2 z0 z1 z2))
    refine bodyPost_end (results_none rfl _ _ _) rfl ⟨rfl, (B1.out.set_ 0 (.int .i64 turn)).set_ 1 (.int .i64 turn), (M1.out.setCell (p := ⟨b, 0, none⟩) (fun _ => rfl) _).setCell (p := ⟨b, 1, none⟩) (fun _ => rfl) _⟩
  · rw [if_neg hl]
    have hlt : decide ((left : Int) - 1 < 1) = false := by simp; omega
    have hltN : decide (left - 1 < 1) = false := by simp; omega
    have hltI : decide (((left - 1 : Nat) : Int) < 1) = false := by simp; omega
    obtain ⟨l, hl'⟩ : ∃ l, left - 1 = l := ⟨_, rfl⟩
    rw [hl'] at hw hltN hltI ⊢
    clear hl hlt h1 h2 hl'
    go_enter Try.func52, Try.ntmps52
    go_wp2
    refine bodyPost_end (results_none rfl _ _ _) rfl ⟨rfl, H.out.set_ 1 (.int .i64 l), (Mods.refl (EN b) w).setCell (p := ⟨b, 1, none⟩) (fun _ => rfl) _⟩

theorem weq_any (W : World) (a c b d : Int) : (binOp .eql 113 (.agg #[.int .i64 a, .int .i64 b]) (.agg #[.int .i64 c, .int .i64 d])).run Try.prog W = .ok (.bool (a == c && b == d)) W := by
  by_cases h1 : a = c
  · by_cases h2 : b = d
    · simp [go_sem, h1, h2]
    · simp [go_sem, h1, h2]
  · simp [go_sem, h1]

theorem eLeft_ok {turn left : Nat} (h : EOk turn left) : EOk turn (eLeft turn left) := by
  obtain ⟨h1, h2, h3⟩ := h
  unfold EOk eLeft
  split <;> omega

theorem etick_any (w : World) {b turn left top : Nat} (h : EA w b turn left top) (hk : EOk turn left) :
    Calls Try.prog 31 #[.pointer (some ⟨b, 0, none⟩)] w fun e w' => e = .returned (.bool (decide (left ≤ 1))) ∧ EA w' b turn (eLeft turn left) top ∧ Mods (EN b) w w' := by
  have HP := Lib.hid (epass_any w h hk)
  obtain ⟨l, hl⟩ : ∃ l, eLeft turn left = l := ⟨_, rfl⟩
  have hx : ((l : Int) == (turn : Int)) = decide (left ≤ 1) := by
    obtain ⟨h1, h2, h3⟩ := hk
    unfold eLeft at hl
    rw [Bool.eq_iff_iff, beq_iff_eq, decide_eq_true_iff]
    split at hl <;> omega
  obtain ⟨r, hr⟩ : ∃ r, decide (left ≤ 1) = r := ⟨_, rfl⟩
  rw [hl] at HP ⊢
  rw [hr] at hx ⊢
  clear hl hr hk h
  have hne : ∀ W, (binOp .eql 113 (.agg #[.int .i64 (turn : Int), .int .i64 (l : Int)]) (.agg #[.int .i64 (turn : Int), .int .i64 (turn : Int)])).run Try.prog W = .ok (.bool r) W := fun W => by
    rw [weq_any, hx]; simp
  clear hx
  go_enter Try.func31, Try.ntmps31
  go_wp2_with (go_at_call 52; refine (HP.out).mono ?_; rintro e w1 ⟨rfl, b1, m1⟩; have B1 := Lib.hid b1; have M1 := Lib.hid m1; have hc0 : ∀ V, Mods Nil w1 V → V.cell? ⟨b, 0, none⟩ = some (.int .i64 (turn : Int)) := (fun V hV => (B1.out.mods hV (fun h => h)).cell 0); have hc1 : ∀ V, Mods Nil w1 V → V.cell? ⟨b, 1, none⟩ = some (.int .i64 (l : Int)) := (fun V hV => (B1.out.mods hV (fun h => h)).cell 1); clear m1 b1)
  go_region_held (fun W => Mods Nil w1 W) (first | assumption | exact (Mods.refl Nil w1).drew) (first
    | (go_at_call 51; refine (ewhole_any _ _).mono ?_; rintro e w2 ⟨rfl, m2⟩; have m := Mods.trans (by assumption) m2))
  go_wp2
  go_ret
  exact ⟨rfl, B1.out.mods (by assumption) (fun h => h), M1.out.trans (Mods.mono (S := Nil) (by assumption) (fun _ _ h => False.elim h))⟩

theorem etick_nil (w : World) : Calls Try.prog 31 #[.pointer none] w fun e w' => e = .returned (.bool false) ∧ Mods Nil w w' := by
  go_enter Try.func31, Try.ntmps31
  go_wp2
  go_ret
  exact ⟨rfl, Mods.refl Nil w⟩

theorem eheard_nil (w : World) (x : Int) : Calls Try.prog 33 #[.pointer none, .int .u64 x] w fun e w' => e = .returned (.bool false) ∧ Mods Nil w w' := by
  go_enter Try.func33, Try.ntmps33
  go_wp2
  go_ret
  exact ⟨rfl, Mods.refl Nil w⟩

theorem etop_nil (w : World) : Calls Try.prog 36 #[.pointer none] w fun e w' => e = .returned (.int .u64 0) ∧ Mods Nil w w' := by
  go_enter Try.func36, Try.ntmps36
  go_wp2
  go_ret
  exact ⟨rfl, Mods.refl Nil w⟩

theorem eleft_nil (w : World) : Calls Try.prog 35 #[.pointer none] w fun e w' => e = .returned (.int .i64 0) ∧ Mods Nil w w' := by
  go_enter Try.func35, Try.ntmps35
  go_wp2
  go_ret
  exact ⟨rfl, Mods.refl Nil w⟩

theorem etop_any (w : World) {b turn left top : Nat} (h : EA w b turn left top) : Calls Try.prog 36 #[.pointer (some ⟨b, 0, none⟩)] w fun e w' => e = .returned (.int .u64 (top : Int)) ∧ Mods Nil w w' := by
  obtain ⟨c0, c1, c2, z0, z1, z2⟩ := h.cells
  clear h
  go_enter Try.func36, Try.ntmps36
  go_wp2
  go_ret
  exact ⟨rfl, Mods.refl Nil w⟩

theorem eleft_any (w : World) {b turn left top : Nat} (h : EA w b turn left top) : Calls Try.prog 35 #[.pointer (some ⟨b, 0, none⟩)] w fun e w' => e = .returned (.int .i64 (left : Int)) ∧ Mods Nil w w' := by
  obtain ⟨c0, c1, c2, z0, z1, z2⟩ := h.cells
  clear h
  go_enter Try.func35, Try.ntmps35
  go_wp2
  go_ret
  exact ⟨rfl, Mods.refl Nil w⟩

theorem eheard_low (w : World) {b turn left top x : Nat} (h : EA w b turn left top) (hx : x < top) : Calls Try.prog 33 #[.pointer (some ⟨b, 0, none⟩), .int .u64 (x : Int)] w fun e w' => e = .returned (.bool false) ∧ Mods Nil w w' := by
  obtain ⟨c0, c1, c2, z0, z1, z2⟩ := h.cells
  have hd : decide ((x : Int) < (top : Int)) = true := by simp; omega
  have hdN : decide (x < top) = true := by simp; omega
  clear h hx
  go_enter Try.func33, Try.ntmps33
  go_wp2
  go_ret
  exact ⟨rfl, Mods.refl Nil w⟩

theorem eheard_ok (w : World) {b turn left top x : Nat} (h : EA w b turn left top) (hx : top ≤ x) : Calls Try.prog 33 #[.pointer (some ⟨b, 0, none⟩), .int .u64 (x : Int)] w fun e w' => e = .returned (.bool true) ∧ EA w' b turn turn x ∧ Mods (EN b) w w' := by
  obtain ⟨c0, c1, c2, z0, z1, z2⟩ := h.cells
  have H := Lib.hid h
  have hd : decide ((x : Int) < (top : Int)) = false := by simp; omega
  have hdN : decide (x < top) = false := by simp; omega
  clear h hx
  go_enter Try.func33, Try.ntmps33
  go_wp2_with (go_at_call 51; refine (ewhole_any _ _).mono ?_; rintro e w1 ⟨rfl, m1⟩; have M1 := Lib.hid m1; have B1 := Lib.hid (H.out.mods m1 (fun h => h)); obtain ⟨d0, d1, d2, y0, y1, y2⟩ := (show EA _ _ _ _ _ from B1.out).cells; clear m1 c0 c1 c2 z0 z1 z2)
  go_ret
  exact ⟨rfl, ((B1.out.set_ 0 (.int .i64 turn)).set_ 1 (.int .i64 turn)).set_ 2 (.int .u64 x), (((Mods.mono (S := Nil) (T := EN b) M1.out (fun _ _ h => False.elim h)).setCell (p := ⟨b, 0, none⟩) (fun _ => rfl) _).setCell (p := ⟨b, 1, none⟩) (fun _ => rfl) _).setCell (p := ⟨b, 2, none⟩) (fun _ => rfl) _⟩

/-- What may be made. -/
def eMay (n p : Int) : Prop := 0 ≤ n ∧ n ≤ 31 ∧ 1 ≤ p ∧ p ≤ 1000

theorem enew_bad (w : World) {n p : Int} (h : ¬ eMay n p) : Calls Try.prog 29 #[.int .i64 n, .int .i64 p] w fun e w' => e = .returned (.tuple #[.pointer none, .int .i64 1]) ∧ Mods Nil w w' := by
  obtain ⟨q, hq⟩ : ∃ q : Prop, q = ¬ eMay n p := ⟨_, rfl⟩
  have HQ : Hid (¬ eMay n p) := Lib.hid h
  clear h hq q
  by_cases h0 : n < 0
  · have hd : decide (n < 0) = true := by simp; omega
    go_enter Try.func29, Try.ntmps29
    go_wp2
    go_ret2
    exact ⟨rfl, Mods.refl Nil w⟩
  by_cases h1 : 32 ≤ n
  · have hd : decide (n < 0) = false := by simp; omega
    have hd1 : decide (32 ≤ n) = true := by simp; omega
    go_enter Try.func29, Try.ntmps29
    go_wp2
    go_ret2
    exact ⟨rfl, Mods.refl Nil w⟩
  have hd : decide (n < 0) = false := by simp; omega
  have hd1 : decide (32 ≤ n) = false := by simp; omega
  by_cases h2 : p < 1
  · have hd2 : decide (p < 1) = true := by simp; omega
    go_enter Try.func29, Try.ntmps29
    go_wp2
    go_ret2
    exact ⟨rfl, Mods.refl Nil w⟩
  have hd2 : decide (p < 1) = false := by simp; omega
  by_cases h3 : 1000 < p
  · have hd3 : decide (1000 < p) = true := by simp; omega
    go_enter Try.func29, Try.ntmps29
    go_wp2
    go_ret2
    exact ⟨rfl, Mods.refl Nil w⟩
  · exact absurd ⟨by omega, by omega, by omega, by omega⟩ HQ.out

theorem eTurn_le {n p : Nat} (hn : n ≤ 31) (hp : p ≤ 1000) : p * (n + 1) ≤ 32000 := by
  have := Nat.mul_le_mul hp (Nat.succ_le_succ hn)
  omega

theorem enew_ok (w : World) {n p : Nat} (hn : n ≤ 31) (hp : 1 ≤ p) (hp' : p ≤ 1000) : Calls Try.prog 29 #[.int .i64 (n : Int), .int .i64 (p : Int)] w fun e w' => ∃ b, e = .returned (.tuple #[.pointer (some ⟨b, 0, none⟩), .int .i64 0]) ∧ EA w' b (p * (n + 1)) (p * (n + 1)) 0 ∧ w.heap.size ≤ b ∧ Mods Nil w w' := by
  have hd : decide ((n : Int) < 0) = false := by simp
  have hd1 : decide (32 ≤ (n : Int)) = false := by simp; omega
  have hd1N : decide (32 ≤ n) = false := by simp; omega
  have hd2 : decide ((p : Int) < 1) = false := by simp; omega
  have hd2N : decide (p < 1) = false := by simp; omega
  have hd3 : decide (1000 < (p : Int)) = false := by simp; omega
  have hd3N : decide (1000 < p) = false := by simp; omega
  have hT := eTurn_le hn hp'
  have hc : ((p * (n + 1) : Nat) : Int) = (p : Int) * ((n : Int) + 1) := by simp
  obtain ⟨t, ht⟩ : ∃ t, p * (n + 1) = t := ⟨_, rfl⟩
  rw [ht] at hT hc ⊢
  have hw0 : IntKind.i64.wrap ((n : Int) + 1) = (n : Int) + 1 := by rw [IntKind.wrap_i64]; omega
  have hw1 : IntKind.i64.wrap ((p : Int) * ((n : Int) + 1)) = (t : Int) := by rw [IntKind.wrap_i64, ← hc]; omega
  have HW : Hid (∀ V, Calls Try.prog 51 #[.int .i64 (t : Int)] V fun e w' => e = .returned (.agg #[.int .i64 (t : Int), .int .i64 (t : Int)]) ∧ Mods Nil V w') := Lib.hid (fun V => ewhole_any V t)
  clear hn hp hp' ht hT hc
  go_enter Try.func29, Try.ntmps29
  go_wp2_with (go_at_call 51; refine (HW.out _).mono ?_; rintro e w1 ⟨rfl, m1⟩; have M1 := Lib.hid m1; clear m1)
  go_ret2
  exact ⟨_, rfl, Blk.new w1 _ _, M1.out.size, M1.out.alloc _⟩
end Go.Proofs.Ytpabbhhaagfoeaa
