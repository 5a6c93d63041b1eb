/- Package frame: how many bytes the number at the front has, and how many the body. -/
import Derived.Test.YtncmmiecfkfcgaaFrame0
import Derived.Test.YtncmmiecfkfcgaaNums4
namespace Go.Proofs.Ytncmmiecfkfcgaa
open Go.RowKit
set_option linter.unusedVariables false

set_option maxHeartbeats 3200000 in
theorem measure_any {w : World} {A : Option Addr} {c n : Nat} {xs : List UInt8} (hn : xs.length = n) (hs : Sl w A c (bts xs)) :
    Calls Try.prog 16 #[.slice A n c] w fun e w' => e = .returned (.tuple #[.int .i64 (if measE xs = 0 then (hdOf xs : Nat) else (0 : Nat) : Nat), .int .i64 (if measE xs = 0 then (szOf xs : Nat) else (0 : Nat) : Nat), .int .i64 (measE xs)]) ∧ Mods Nil w w' := by
  have hmx := hs.max
  have hle := hs.le
  unfold maxLen at hmx
  simp at hle
  obtain ⟨k, hk⟩ : ∃ k, min n 9 = k := ⟨_, rfl⟩
  have hk9 : k ≤ 9 := by omega
  have hkn : k ≤ n := by omega
  have htk : Sl w A c (bts (xs.take 9)) := by have := hs.take 9; rwa [bts_take] at this
  have hlk : (xs.take 9).length = k := by simp; omega
  obtain ⟨E, ys, V, hR⟩ : ∃ E ys V, readUint 0 (xs.take 9) = (E, ys, V) := ⟨_, _, _, rfl⟩
  have hN := newReader_any (w := w) hlk (by omega) htk
  have hU := fun (W : World) (g : Nat) (q : Option Nat) (h : IsReader W g q 0 (xs.take 9)) => uint_any (w := W) (g := g) (k := q) (err := 0) (xs := xs.take 9) (by omega) h
  simp only [hR] at hU
  have HN := Lib.hid hN
  have HU := Lib.hid hU
  have hmin : ∀ (ts : Array TypeId) (t : TypeId) (W : World), (Builtin.min_ ts t #[.int .i64 (n : Int), .int .i64 9]).run Try.prog W = .ok (.int .i64 (k : Int)) W := fun ts t W => by
    rw [run_min_int2]
    congr 2
    split <;> omega
  have hkc : (k : Int) ≤ (c : Int) := by omega
  have hk0 : (0 : Int) ≤ (k : Int) := by omega
  clear hN hU htk
  by_cases hE : E = 0
  · subst hE
    have hnum : numErr xs = 0 := by
      by_cases h : numErr (xs.take 9) = 0
      · rw [← numErr_take9]; exact h
      · rw [readUint_bad h] at hR; injection hR with h1 _; exact absurd h1 h
    have hV : V = szOf xs := by
      rw [readUint_ok (by rw [numErr_take9]; exact hnum)] at hR
      injection hR with _ h2
      injection h2 with _ h3
      rw [← h3, szOf_take9 hnum]
    subst hV
    obtain ⟨x, r, rfl, _, _⟩ := numErr_zero_inv hnum
    obtain ⟨b, off, rfl, _, hcell⟩ := hs.at_ (by simp)
    have h0 : w.cell? ⟨b, off, none⟩ = some (.int .u8 (x.toNat : Int)) := hcell 0 _ (by simp [bts])
    have hlt := World.block_lt_of_cell? w _ h0
    simp at hn
    have hpos : (0 : Int) < (n : Int) := by omega
    have hpos' : 0 < n := by omega
    have hhd : hdOf (x :: r) = 1 + x.toNat := rfl
    have hx := x.toNat_lt
    by_cases hbig : 65535 < szOf (x :: r)
    · have hm : measE (x :: r) = 13 := by unfold measE; rw [if_neg (by simp [hnum]), if_pos hbig]
      rw [hm]
      have HM := Lib.hid hm
      generalize szOf (x :: r) = V at hbig HU ⊢
      have hbI : (65535 : Int) < (V : Int) := by omega
      clear hR hnum hcell hs hm hlk hbig hhd
      go_enter Try.func16, Try.ntmps16
      go_wp2_with (first
        | (go_at_call 28; refine (HN.out).mono ?_; rintro e w1 ⟨g, q, rfl, hr, hg, hq, m1⟩; have HR := Lib.hid hr; have M1 := Lib.hid m1; clear hr m1 hq)
        | (go_at_call 29; refine (HU.out _ _ _ HR.out).mono ?_; rintro e w2 ⟨rfl, hr2, m2⟩; have HR2 := Lib.hid hr2; have M2 := Lib.hid (M1.out.nil_trans m2 (fun i hi => by subst hi; exact hg)); clear hr2 m2)
        | (go_at_call 30; refine (err_any HR2.out).mono ?_; rintro e w3 ⟨rfl, rfl⟩))
      exact bodyPost_ret (v := .tuple #[.int .i64 0, .int .i64 0, .int .i64 13]) (by simp [results, Try.results16, go_sem]) rfl ⟨rfl, M2.out⟩
    · have hm : measE (x :: r) = 0 := measE_of hnum (by omega)
      rw [hm, if_pos rfl, if_pos rfl, hhd]
      have hsz : szOf (x :: r) ≤ 65535 := by omega
      generalize szOf (x :: r) = V at hsz HU ⊢
      have hbI : (V : Int) ≤ 65535 := by omega
      clear hR hnum hcell hs hm hlk hbig hhd
      generalize x.toNat = y at h0 hx ⊢
      go_enter Try.func16, Try.ntmps16
      go_wp2_with (first
        | (go_at_call 28; refine (HN.out).mono ?_; rintro e w1 ⟨g, q, rfl, hr, hg, hq, m1⟩; have HR := Lib.hid hr; have M1 := Lib.hid m1; clear hr m1 hq)
        | (go_at_call 29; refine (HU.out _ _ _ HR.out).mono ?_; rintro e w2 ⟨rfl, hr2, m2⟩; have HR2 := Lib.hid hr2; have M2 := Lib.hid (M1.out.nil_trans m2 (fun i hi => by subst hi; exact hg)); have h02 : w2.cell? ⟨b, off, none⟩ = some (.int .u8 (y : Int)) := (World.cell?_of_block (M2.out.block b hlt (fun h => h))).trans h0; clear hr2 m2)
        | (go_at_call 30; refine (err_any HR2.out).mono ?_; rintro e w3 ⟨rfl, rfl⟩))
      exact bodyPost_ret (v := .tuple #[.int .i64 (1 + y), .int .i64 V, .int .i64 0]) (by simp [results, Try.results16, go_sem]) rfl ⟨by simp, M2.out⟩
  · have hnum : numErr xs = E ∧ E ≠ 0 := by
      by_cases h : numErr (xs.take 9) = 0
      · rw [readUint_ok h] at hR; injection hR with h1 _; exact absurd h1.symm hE
      · rw [readUint_bad h] at hR; injection hR with h1 _; rw [← h1, numErr_take9] at *; exact ⟨rfl, h⟩
    have hm : measE xs = E := by unfold measE; rw [if_pos (by rw [hnum.1]; exact hE), hnum.1]
    rw [hm, if_neg hE, if_neg hE]
    have hb2 : (E != 0) = true := by simp [hE]
    have hb3 : (E == 0) = false := by simp [hE]
    clear hR hnum hs hm hlk hE
    go_enter Try.func16, Try.ntmps16
    go_wp2_with (first
      | (go_at_call 28; refine (HN.out).mono ?_; rintro e w1 ⟨g, q, rfl, hr, hg, hq, m1⟩; have HR := Lib.hid hr; have M1 := Lib.hid m1; clear hr m1 hq)
      | (go_at_call 29; refine (HU.out _ _ _ HR.out).mono ?_; rintro e w2 ⟨rfl, hr2, m2⟩; have HR2 := Lib.hid hr2; have M2 := Lib.hid (M1.out.nil_trans m2 (fun i hi => by subst hi; exact hg)); clear hr2 m2)
      | (go_at_call 30; refine (err_any HR2.out).mono ?_; rintro e w3 ⟨rfl, rfl⟩))
    exact bodyPost_ret (v := .tuple #[.int .i64 0, .int .i64 0, .int .i64 E]) (by simp [results, Try.results16, go_sem]) rfl ⟨rfl, M2.out⟩
end Go.Proofs.Ytncmmiecfkfcgaa
