/- Package vec: Le, Sum. -/
import Derived.Test.YtkodmgnagfolpaaVec2
namespace Go.Proofs.Ytkodmgnagfolpaa
set_option maxRecDepth 100000
open Go.RowKit
set_option linter.unusedVariables false
set_option linter.unusedSimpArgs false

theorem leB_of {xs ys : List Nat} (h : ∀ j, j < xs.length → decide (vat xs j ≤ vat ys j) = true) : leB xs ys = true := by
  unfold leB
  rw [decide_eq_true_iff]
  exact fun i hi => by simpa using h i hi
theorem leB_not {xs ys : List Nat} {j : Nat} (hj : j < xs.length) (h : decide (vat xs j ≤ vat ys j) = false) : leB xs ys = false := by
  unfold leB
  rw [decide_eq_false_iff_not]
  intro h2
  have := h2 j hj
  simp at h
  omega
set_option maxHeartbeats 1600000 in
theorem le_any (w : World) {n c m d : Nat} {A B : Option Addr} {xs ys : List Nat} (hn : xs.length = n) (hl : n ≤ 140737488355328) (hs : Sl w A c (nums xs)) (hm : ys.length = m) (hy : Sl w B d (nums ys)) :
    Calls Try.prog 70 #[.slice A n c, .slice B m d] w fun e w' => e = .returned (.bool (leB xs ys)) ∧ Mods Nil w w' := by
  obtain ⟨W0, hW0⟩ : ∃ W, w.alloc (.cells #[.slice A n c] 34) = W := ⟨_, rfl⟩
  obtain ⟨W, hW⟩ : ∃ W, W0.alloc (.cells #[.slice B m d] 34) = W := ⟨_, rfl⟩
  have HM : Hid (Mods Nil w W) := by rw [← hW, ← hW0]; exact Lib.hid (((Mods.refl Nil w).alloc _).alloc _)
  have B1 : Hid (Blk W w.heap.size 34 #[.slice A n c]) := by
    subst hW; subst hW0
    exact Lib.hid ((Blk.new w _ _).alloc _)
  have B2 : Hid (Blk W W0.heap.size 34 #[.slice B m d]) := by
    subst hW
    exact Lib.hid (Blk.new W0 _ _)
  have y0 := B1.out.oneV.1
  have HA := Lib.hid (all_gen (f := 79) (u := .pointer (some ⟨w.heap.size, 0, none⟩)) (v := .pointer (some ⟨W0.heap.size, 0, none⟩)) (n := n) W (enters Try.func79 (by kernel_rfl) (by rfl)) hl (fun _ V => Mods Nil W V) (fun V => Mods Nil W V) (fun j => decide (vat xs j ≤ vat ys j)) (Mods.refl _ _)
    (fun j V hj hV => (le1_any V (B1.out.mods hV (fun h => h)) (B2.out.mods hV (fun h => h)) hn ((hs.mods HM.out (fun _ _ h => h)).mods hV (fun _ _ h => h)) hm ((hy.mods HM.out (fun _ _ h => h)).mods hV (fun _ _ h => h)) hj).mono fun e V' h => ⟨h.1, fun _ => hV.trans h.2, fun _ => hV.trans h.2⟩))
  have HN := Lib.hid hn
  clear hn hs hm hy
  go_enter Try.func70, Try.ntmps70
  go_wp2_with (go_at_call 57; refine (HA.out).mono ?_; intro e w1 h1; have H1 : Hid (∃ r, r = leB xs ys ∧ e = .returned (.bool r) ∧ Mods Nil W w1) := Lib.hid (by rcases h1 with ⟨h2, h3, h4⟩ | ⟨h2, h3, j, h4, h5, h6⟩; exact ⟨_, rfl, by rw [leB_of (by rw [HN.out]; exact h4)]; exact h2, h3⟩; exact ⟨_, rfl, by rw [leB_not (by rw [HN.out]; exact h4) h5]; exact h2, h3⟩); clear h1; obtain ⟨r, hr, rfl, m1⟩ := H1.out; have M1 := Lib.hid m1; have HR := Lib.hid hr; clear m1 hr H1)
  go_ret
  exact ⟨by rw [← HR.out]; rfl, HM.out.trans M1.out⟩

/-! The sum. -/
theorem wsum_take {xs : List Nat} (hb : Bd xs) {j : Nat} (hj : j < xs.length) (ht : total (xs.take j) < 18446744073709551616) :
    (vat xs j ≤ wsum (total (xs.take j)) (vat xs j) ↔ total (xs.take (j + 1)) < 18446744073709551616) ∧ (total (xs.take (j + 1)) < 18446744073709551616 → wsum (total (xs.take j)) (vat xs j) = total (xs.take (j + 1))) := by
  rw [total_take_succ xs j hj]
  have h1 := hb j
  unfold wsum
  constructor
  · constructor <;> intro h <;> omega
  · intro h; omega
set_option maxHeartbeats 1600000 in
theorem sum_any (w : World) {n c : Nat} {A : Option Addr} {xs : List Nat} (hn : xs.length = n) (hl : n ≤ 140737488355328) (hb : Bd xs) (hs : Sl w A c (nums xs)) :
    Calls Try.prog 50 #[.slice A n c] w fun e w' => e = .returned (.tuple #[.int .u64 (sumV xs : Int), .int .i64 (sumE xs)]) ∧ Mods Nil w w' := by
  obtain ⟨W0, hW0⟩ : ∃ W, w.alloc (.cells #[.slice A n c] 34) = W := ⟨_, rfl⟩
  obtain ⟨W1, hW1⟩ : ∃ W, W0.alloc (.cells #[.int .u64 0] 27) = W := ⟨_, rfl⟩
  obtain ⟨W, hW⟩ : ∃ W, W1.setCell ⟨W0.heap.size, 0, none⟩ (.int .u64 0) = W := ⟨_, rfl⟩
  have HM0 : Hid (Mods Nil w W0) := by rw [← hW0]; exact Lib.hid ((Mods.refl Nil w).alloc _)
  have HM : Hid (Mods Nil w W) := by rw [← hW, ← hW1]; exact Lib.hid ((HM0.out.alloc _).setNew HM0.out.size _)
  have B02 : Hid (Blk W1 W0.heap.size 27 #[.int .u64 0]) := by
    subst hW1
    exact Lib.hid (Blk.new W0 _ _)
  have f0 := B02.out.oneV.2
  have f1 := B02.out.oneV.1
  have B2 : Hid (Blk W W0.heap.size 27 #[.int .u64 0]) := by
    subst hW
    exact Lib.hid (B02.out.set_ 0 (.int .u64 0))
  have B01 : Hid (Blk W1 w.heap.size 34 #[.slice A n c]) := by
    subst hW1; subst hW0
    exact Lib.hid ((Blk.new w _ _).alloc _)
  have B1 : Hid (Blk W w.heap.size 34 #[.slice A n c]) := by
    have hne := B01.out.ne_ B02.out (by decide)
    subst hW
    exact Lib.hid (B01.out.far hne _)
  have y0 := B1.out.oneV.1
  have hold : ∀ a, 0 < n → A = some a → a.block < w.heap.size := fun a h0 ha => hs.old (by intro h; rw [← hn] at h0; simp [nums] at h; subst h; simp at h0) a ha
  have HA := Lib.hid (all_gen (f := 58) (u := .pointer (some ⟨W0.heap.size, 0, none⟩)) (v := .pointer (some ⟨w.heap.size, 0, none⟩)) (n := n) W (enters Try.func58 (by kernel_rfl) (by rfl)) hl
    (fun j V => Mods (fun k => k = W0.heap.size) W V ∧ total (xs.take j) < 18446744073709551616 ∧ Blk V W0.heap.size 27 #[.int .u64 (total (xs.take j) : Int)]) (fun V => Mods (fun k => k = W0.heap.size) W V) (fun j => decide (total (xs.take (j + 1)) < 18446744073709551616)) ⟨Mods.refl _ _, by rw [List.take_zero, total_nil]; omega, by rw [List.take_zero, total_nil]; exact B2.out⟩
    (fun j V hj ⟨hV, ht, hbs⟩ => by
      have hws := wsum_take hb (j := j) (by omega) ht
      have hg : w.heap.size ≠ W0.heap.size := fun e => B1.out.ne_ B2.out (by decide) e
      have h0 : w.heap.size ≤ W0.heap.size := HM0.out.size
      refine (sum1_any V hbs (B1.out.mods hV hg) hn ((hs.mods HM.out (fun _ _ h => h)).mods hV (fun a ha h => by have := hold a (by omega) ha; omega)) (fun a ha h => by have := hold a (by omega) ha; omega) hj).mono ?_
      rintro e V' ⟨rfl, h2, h3⟩
      refine ⟨by rw [decide_eq_decide.2 hws.1], fun hy => ⟨hV.trans h3, by simpa using hy, ?_⟩, fun _ => hV.trans h3⟩
      rw [← hws.2 (by simpa using hy)]
      exact h2))
  have HN := Lib.hid hn
  have hg : W0.heap.size ≠ w.heap.size := fun e => B1.out.ne_ B2.out (by decide) e.symm
  have hge : w.heap.size ≤ W0.heap.size := HM0.out.size
  clear hs hn hold
  by_cases hfit : total xs < 18446744073709551616
  · have hx : sumV xs = total xs ∧ sumE xs = 0 := by unfold sumV sumE; rw [if_pos hfit, if_pos hfit]; exact ⟨rfl, rfl⟩
    rw [hx.1, hx.2]
    have HF := Lib.hid hfit
    clear hx hb hfit
    go_enter Try.func50, Try.ntmps50
    go_wp2_with (go_at_call 57; refine (HA.out).mono ?_; intro e w1 h1; have H1 : Hid (e = .returned (.bool true) ∧ Mods (fun k => k = W0.heap.size) W w1 ∧ Blk w1 W0.heap.size 27 #[.int .u64 (total xs : Int)]) := Lib.hid (by rcases h1 with ⟨h2, ⟨h3, h4, h5⟩, h6⟩ | ⟨h2, h3, j, h4, h5, h6⟩; exact ⟨h2, h3, by rw [← HN.out, List.take_length] at h5; exact h5⟩; exact absurd (Nat.lt_of_le_of_lt (total_take_le xs (j + 1)) HF.out) (by simpa using h5)); clear h1; obtain ⟨rfl, m1, b1⟩ := H1.out; have M1 := Lib.hid m1; have c1 := b1.oneV.1; clear m1 b1 H1)
    go_ret2
    exact ⟨rfl, HM.out.nil_trans M1.out (fun i hi => by rw [hi]; exact hge)⟩
  · have hx : sumV xs = 0 ∧ sumE xs = 37 := by unfold sumV sumE; rw [if_neg hfit, if_neg hfit]; exact ⟨rfl, rfl⟩
    rw [hx.1, hx.2]
    have HF := Lib.hid hfit
    clear hx hb hfit
    go_enter Try.func50, Try.ntmps50
    go_wp2_with (go_at_call 57; refine (HA.out).mono ?_; intro e w1 h1; have H1 : Hid (e = .returned (.bool false) ∧ Mods (fun k => k = W0.heap.size) W w1) := Lib.hid (by rcases h1 with ⟨h2, ⟨h3, h4, h5⟩, h6⟩ | ⟨h2, h3, j, h4, h5, h6⟩; exact absurd (by rw [← HN.out, List.take_length] at h4; exact h4) HF.out; exact ⟨h2, h3⟩); clear h1; obtain ⟨rfl, m1⟩ := H1.out; have M1 := Lib.hid m1; clear m1 H1)
    go_ret2
    exact ⟨rfl, HM.out.nil_trans M1.out (fun i hi => by rw [hi]; exact hge)⟩
end Go.Proofs.Ytkodmgnagfolpaa
