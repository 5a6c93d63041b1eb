/- Texts laid as one: Srt9, SrtA, SrtB, SrtC, SrtD. -/
import Derived.Test.YtpabbhhaagfoeaaSrtM2
import Derived.Shelf.SlSortCmp.Xorshift
import Derived.Deep.CutRange
import Derived.Test.YtpabbhhaagfoeaaArrM

section
/- slices.Sort of numbers: where the kit's bodies of nextPowerOfTwo and (*xorshift).Next lie at this dump. -/
namespace Go.Proofs.Ytpabbhhaagfoeaa
set_option maxRecDepth 100000
open Go.RowKit
set_option linter.unusedVariables false
set_option linter.unusedSimpArgs false
def xorS_ren : Go.Shelf.Ren := ⟨fun | 15 => 64 | 28 => 75 | 29 => 76 | 47 => 78 | 48 => 79 | n => n, fun | 0 => 0 | 3 => 3 | 4 => 4 | 5 => 5 | 9 => 9 | 39 => 76 | 53 => 85 | 55 => 28 | 66 => 139 | 76 => 144 | n => n, fun n => n⟩
theorem pow2S : SlLaysF0.n47 Try.prog xorS_ren where
  mixed := by kernel_rfl
  f15 := Try.func64.trans (congrArg some (by kernel_rfl))
  f28 := Try.func75.trans (congrArg some (by kernel_rfl))
  f29 := Try.func76.trans (congrArg some (by kernel_rfl))
  f47 := Try.func78.trans (congrArg some (by kernel_rfl))
  t3 := Try.underlying3
  a3 := Try.isAgg3
  z3 := Try.sizeOf3
  v3 := Try.zeroValue3
  t4 := Try.underlying4
  a4 := Try.isAgg4
  z4 := Try.sizeOf4
  v4 := Try.zeroValue4
  t5 := Try.underlying5
  a5 := Try.isAgg5
  z5 := Try.sizeOf5
  v5 := Try.zeroValue5
  t9 := Try.underlying9
  a9 := Try.isAgg9
  z9 := Try.sizeOf9
  v9 := Try.zeroValue9
  t39 := Try.underlying76
  a39 := Try.isAgg76
  z39 := Try.sizeOf76
  v39 := Try.zeroValue76
  t53 := Try.underlying85
  a53 := Try.isAgg85
  z53 := Try.sizeOf85
  v53 := Try.zeroValue85
  t55 := Try.underlying28
  a55 := Try.isAgg28
  z55 := Try.sizeOf28
  v55 := Try.zeroValue28
theorem nextS : SlLaysF0.n48 Try.prog xorS_ren where
  mixed := by kernel_rfl
  f48 := Try.func79.trans (congrArg some (by kernel_rfl))
  t0 := Try.underlying0
  a0 := Try.isAgg0
  z0 := Try.sizeOf0
  v0 := Try.zeroValue0
  t39 := Try.underlying76
  a39 := Try.isAgg76
  z39 := Try.sizeOf76
  v39 := Try.zeroValue76
  t55 := Try.underlying28
  a55 := Try.isAgg28
  z55 := Try.sizeOf28
  v55 := Try.zeroValue28
  t66 := Try.underlying139
  a66 := Try.isAgg139
  z66 := Try.sizeOf139
  v66 := Try.zeroValue139
  t76 := Try.underlying144
  a76 := Try.isAgg144
  z76 := Try.sizeOf144
  v76 := Try.zeroValue144
theorem snext_any (w : World) {p X : Nat} (hX : X < 18446744073709551616) (hc : w.cell? ⟨p, 0, none⟩ = some (.int .u64 X)) (hf : w.frozen? ⟨p, 0, none⟩ = false) :
    Calls Try.prog 79 #[.pointer (some ⟨p, 0, none⟩)] w fun e w' => e = .returned (.int .u64 (Go.Sort.xorNextN X : Nat)) ∧ w' = (w.setCell ⟨p, 0, none⟩ (.int .u64 (Go.Sort.xorNextN X : Nat))).drewN 3 :=
  AnyF.xorshift_Next nextS p 0 X hX w hc hf
theorem spow_any (w : World) {n : Nat} (hn : n < 4611686018427387904) : Calls Try.prog 78 #[.int .i64 n] w fun e w' => e = .returned (.int .u64 ((1 <<< Go.Sort.bitsLen n : Nat) : Int)) ∧ w' = w :=
  AnyF.nextPowerOfTwo pow2S n hn w
end Go.Proofs.Ytpabbhhaagfoeaa
end

section
/- slices.Sort of numbers: breakPatternsOrdered (printed by wip/tools/gensrt/brk.py). -/
namespace Go.Proofs.Ytpabbhhaagfoeaa
set_option maxRecDepth 100000
open Go.RowKit
set_option linter.unusedVariables false
set_option linter.unusedSimpArgs false
open Go.Sort (breakStep breakPatterns bitsLen xorNext xorNextN swp)
def bpR (a m M : Nat) : Nat → Nat → UInt64 × Array Int → Array Int
  | _, 0, s => s.2
  | i, k + 1, s => bpR a m M (i + 1) k (breakStep a m M s i)
theorem bpR_all {d : Array Int} {a b m q : Nat} (hm : b - a = m) (hq : m / 4 = q) (h8 : 8 ≤ m) : breakPatterns d a b = bpR a m (1 <<< bitsLen m) (a + q * 2 - 1) 3 (UInt64.ofNat m, d) := by
  subst hm; subst hq
  have e1 : a + (b - a) / 4 * 2 - 1 + 1 + 1 = a + (b - a) / 4 * 2 - 1 + 2 := rfl
  simp only [breakPatterns, if_pos (show b - a ≥ 8 by omega), bpR]
theorem bpR_lo {d : Array Int} {a m M i k o X : Nat} {r : UInt64} (hX : xorNextN r.toNat = X) (ho : X &&& (M - 1) = o) (h : o < m) : bpR a m M i (k + 1) (r, d) = bpR a m M (i + 1) k (xorNext r, swp d i (a + o)) := by
  rw [bpR, breakStep]
  simp only [Go.Sort.xorNext_toNat, hX, ho, if_neg (show ¬ o ≥ m by omega)]
theorem bpR_hi {d : Array Int} {a m M i k o t X : Nat} {r : UInt64} (hX : xorNextN r.toNat = X) (ho : X &&& (M - 1) = o) (h : m ≤ o) (ht : o - m = t) : bpR a m M i (k + 1) (r, d) = bpR a m M (i + 1) k (xorNext r, swp d i (a + t)) := by
  rw [bpR, breakStep]
  simp only [Go.Sort.xorNext_toNat, hX, ho, if_pos (show o ≥ m by omega), ht]
theorem Rw.other {w0 w : World} {b off p : Nat} {d : Array Int} (h : Rw w0 w b off d) (hp : p ≠ b) (h0 : w0.heap.size ≤ p) (u : Value) : Rw w0 (w.setCell ⟨p, 0, none⟩ u) b off d := by
  have hb : (w.setCell ⟨p, 0, none⟩ u).heap[b]? = w.heap[b]? := Below.heap_setCell _ _ _ _ (fun e => hp e.symm)
  obtain ⟨c, c', e, fr, h1, h2, h3⟩ := h.same
  refine ⟨h.lt, fun j hj => ?_, h.mods.setCell (p := ⟨p, 0, none⟩) (fun hlt => absurd hlt (by show ¬ p < _; omega)) _, c, c', e, fr, h1, hb.trans h2, h3⟩
  have := h.holds j hj
  refine ⟨?_, ?_⟩
  · rw [World.cell?, hb]; exact this.1
  · rw [World.frozen?, hb]; exact this.2
/-- The random number, in a block of its own. -/
structure Rx (w : World) (p : Nat) (x : Nat) : Prop where
  lt : p < w.heap.size
  cell : w.cell? ⟨p, 0, none⟩ = some (.int .u64 (x : Int))
  froz : w.frozen? ⟨p, 0, none⟩ = false
theorem Rx.nil {w w' : World} {p x : Nat} (h : Rx w p x) (hm : Mods Nil w w') : Rx w' p x := by
  have hb := hm.block p h.lt (fun h => h)
  refine ⟨Nat.lt_of_lt_of_le h.lt hm.size, ?_, ?_⟩
  · rw [World.cell?, hb]; exact h.cell
  · rw [World.frozen?, hb]; exact h.froz
theorem Rx.set {w : World} {p x : Nat} (h : Rx w p x) (t : Nat) : Rx (w.setCell ⟨p, 0, none⟩ (.int .u64 (t : Int))) p t := by
  refine ⟨by simpa [World.setCell] using h.lt, World.cell?_setCell_same' _ _ _ (by rw [h.cell]; rfl), ?_⟩
  have := h.froz
  simpa using this
theorem Rx.other {w : World} {p x b o : Nat} (h : Rx w p x) (hp : p ≠ b) (u : Value) : Rx (w.setCell ⟨b, o, none⟩ u) p x := by
  have hb : (w.setCell ⟨b, o, none⟩ u).heap[p]? = w.heap[p]? := Below.heap_setCell _ _ _ _ hp
  refine ⟨by simpa [World.setCell] using h.lt, ?_, ?_⟩
  · rw [World.cell?, hb]; exact h.cell
  · rw [World.frozen?, hb]; exact h.froz
theorem sbrk_any (w : World) {blk off cap a b n : Nat} {d : Array Int} (hR : Rw w w blk off d) (hn : d.size = n) (hab : a + 12 < b) (hb : b ≤ n) (hsz : n < 4611686018427387904) :
    Calls Try.prog 68 #[.slice (some ⟨blk, off, none⟩) n cap, .int .i64 (a : Int), .int .i64 (b : Int)] w fun e w' => e = .returned (.tuple #[]) ∧ ∃ d', d' = breakPatterns d a b ∧ d'.size = n ∧ Rw w w' blk off d' := by
  obtain ⟨m, hm⟩ : ∃ m, b - a = m := ⟨_, rfl⟩
  obtain ⟨q, hq⟩ : ∃ q, m / 4 = q := ⟨_, rfl⟩
  obtain ⟨M, hM⟩ : ∃ M, 1 <<< bitsLen m = M := ⟨_, rfl⟩
  have hm12 : 12 < m := by omega
  have hM2 : M ≤ 2 * m := by rw [← hM, Nat.one_shiftLeft]; exact Go.Sort.two_pow_bitsLen_le (by omega)
  have hM1 : m < M := by rw [← hM, Nat.one_shiftLeft]; exact Go.Sort.lt_two_pow_bitsLen m
  obtain ⟨M1, hMM⟩ : ∃ M1, M - 1 = M1 := ⟨_, rfl⟩
  have hMI : (M : Int) - 1 = (M1 : Int) := by omega
  obtain ⟨i0, hi0⟩ : ∃ i0, i0 = a + q * 2 - 1 := ⟨_, rfl⟩
  have hmI : (b : Int) - (a : Int) = (m : Int) := by omega
  have hqI : (m : Int).tdiv 4 = (q : Int) := by rw [Int.tdiv_eq_ediv_of_nonneg (by omega)]; omega
  have hiI : (a : Int) + (q : Int) * 2 - 1 = (i0 : Int) := by omega
  have hbm : b = a + m := by omega
  have hq2 : q * 2 + 2 ≤ m := by omega
  have hq3 : 3 ≤ q := by omega
  have hmn : a + m ≤ n := by omega
  have hMn : M1 < 9223372036854775808 := by omega
  have hwm : IntKind.u64.wrap (m : Int) = (m : Int) := by rw [IntKind.wrap_u64]; omega
  have HD : Hid (breakPatterns d a b = bpR a m M i0 3 (UInt64.ofNat m, d)) := Lib.hid (by rw [bpR_all hm hq (by omega), hM, hi0])
  have HI0 := Lib.hid hi0
  have HMM := Lib.hid hMM
  have HBM := Lib.hid hbm
  have hne : w.heap.size ≠ blk := by have := hR.lt; omega
  have HP : Hid (∀ W, Calls Try.prog 78 #[.int .i64 (m : Int)] W fun e w' => e = .returned (.int .u64 (M : Int)) ∧ w' = W) := Lib.hid (fun W => by have := spow_any W (n := m) (by omega); rw [hM] at this; exact this)
  have HB0 : Hid (Rx (w.alloc (.cells #[.int .u64 (m : Int)] 139)) w.heap.size m) := Lib.hid ⟨(Blk.new w 139 #[.int .u64 (m : Int)]).lt, (Blk.new w 139 #[.int .u64 (m : Int)]).cell 0, (Blk.new w 139 #[.int .u64 (m : Int)]).frozen 0⟩
  have HR0 : Hid (Rw w (w.alloc (.cells #[.int .u64 (m : Int)] 139)) blk off d) := Lib.hid (hR.alloc _)
  have HN := Lib.hid hn
  clear hR hn hm hq hM hMM hi0 hbm
  go_enter Try.func68, Try.ntmps68
  go_wp2_with (go_at_call 78; refine (HP.out _).mono ?_; rintro e w' ⟨rfl, rfl⟩)
  go_loopw [9] (fun ui wr => ∃ (i k : Nat) (r : UInt64) (dk : Array Int), ui = .int .i64 (i : Int) ∧ i + k = i0 + 3 ∧ k ≤ 3 ∧ Hid (dk.size = n) ∧ Hid (Rw w wr blk off dk) ∧ Hid (Rx wr w.heap.size r.toNat) ∧ Hid (bpR a m M i k (r, dk) = breakPatterns d a b)) (fun ui _ => i0 + 4 - (intOf ui).toNat)
  case atStart =>
    exact ⟨i0, 3, UInt64.ofNat m, d, rfl, rfl, Nat.le_refl _, HN, HR0, Lib.hid (by rw [UInt64.toNat_ofNat_of_lt' (show m < 18446744073709551616 by omega)]; exact HB0.out), Lib.hid HD.out.symm⟩
  case round =>
    obtain ⟨i, k, r, dk, rfl, hik, hk3, HS, HK, HX, HO⟩ := hrel
    have hi0 : i0 + 1 = a + q * 2 := by have := HI0.out; omega
    cases k with
    | zero =>
      go_wp2
      exact bodyPost_end (results_none rfl _ _ _) rfl ⟨rfl, dk, HO.out, HS.out, HK.out⟩
    | succ k =>
      obtain ⟨X, hX⟩ : ∃ X, xorNextN r.toNat = X := ⟨_, rfl⟩
      have hXl : X < 18446744073709551616 := by rw [← hX]; exact Go.Sort.xorNextN_lt _ r.toNat_lt
      obtain ⟨o, ho⟩ : ∃ o, X &&& M1 = o := ⟨_, rfl⟩
      have hoM : o ≤ M1 := by rw [← ho]; exact Nat.and_le_right
      have hand : bits .and .u64 (X : Int) (M1 : Int) = (o : Int) := by rw [bits_and_u64_nat _ _ hXl (by omega), ho]
      have HXN := Lib.hid hX
      have HOO : Hid (X &&& (M - 1) = o) := Lib.hid (by rw [HMM.out]; exact ho)
      have HNX : Hid (∀ W, Rx W w.heap.size r.toNat → Calls Try.prog 79 #[.pointer (some ⟨w.heap.size, 0, none⟩)] W fun e w' => e = .returned (.int .u64 (X : Int)) ∧ w' = (W.setCell ⟨w.heap.size, 0, none⟩ (.int .u64 (X : Int))).drewN 3) := Lib.hid (fun W hW => by have := snext_any W r.toNat_lt hW.cell hW.froz; rw [hX] at this; exact this)
      clear hX ho
      have hib : i < n := by omega
      by_cases hmo : m ≤ o
      · obtain ⟨t, ht⟩ : ∃ t, o - m = t := ⟨_, rfl⟩
        have htI : (o : Int) - (m : Int) = (t : Int) := by omega
        have htm : t < m := by omega
        have HTT := Lib.hid ht
        clear ht
        have HST := Lib.hid (bpR_hi (a := a) (d := dk) (i := i) (k := k) HXN.out HOO.out hmo HTT.out)
        obtain ⟨y, hy⟩ : ∃ y, dk[a + t]! = y := ⟨_, rfl⟩
        have HY := Lib.hid hy
        clear hy
        by_cases hit : i = a + t
        · subst hit
          have wt : IntKind.i64.wrap ((a : Int) + (t : Int)) = (a : Int) + (t : Int) := by rw [IntKind.wrap_i64]; omega
          go_wp2_with (go_at_call 79; refine (HNX.out _ HX.out).mono ?_; rintro e w1 ⟨rfl, hw1⟩; have HK1 := Lib.hid (show Rw w w1 blk off dk by rw [hw1]; exact (HK.out.other hne (Nat.le_refl _) _).drewN 3); have HX1 := Lib.hid (show Rx w1 w.heap.size X by rw [hw1]; exact (HX.out.set X).nil ((Mods.refl Nil _).drewN 3)); clear hw1; have c1 := HK1.out.cell (j := a + t) (by rw [HS.out]; omega); have k1 := HK1.out.froz (j := a + t) (by rw [HS.out]; omega); rw [HY.out] at c1)
          go_region
          go_wp2
          refine ⟨⟨a + t + 1, k, xorNext r, swp dk (a + t) (a + t), by go_num, by omega, by omega, Lib.hid (by rw [swp_size]; exact HS.out), Lib.hid ((HK1.out.swp (by rw [HS.out]; omega) (by rw [HS.out]; omega) HY.out HY.out).drew), Lib.hid (by rw [Go.Sort.xorNext_toNat, HXN.out]; exact ((HX1.out.other hne _).other hne _).nil (Mods.refl Nil _).drew), Lib.hid (HST.out.symm.trans HO.out)⟩, by simp [intOf]; omega⟩
        · obtain ⟨x, hx⟩ : ∃ x, dk[i]! = x := ⟨_, rfl⟩
          have HXX := Lib.hid hx
          clear hx
          have wt : IntKind.i64.wrap ((a : Int) + (t : Int)) = (a : Int) + (t : Int) := by rw [IntKind.wrap_i64]; omega
          go_wp2_with (go_at_call 79; refine (HNX.out _ HX.out).mono ?_; rintro e w1 ⟨rfl, hw1⟩; have HK1 := Lib.hid (show Rw w w1 blk off dk by rw [hw1]; exact (HK.out.other hne (Nat.le_refl _) _).drewN 3); have HX1 := Lib.hid (show Rx w1 w.heap.size X by rw [hw1]; exact (HX.out.set X).nil ((Mods.refl Nil _).drewN 3)); clear hw1; have c1 := HK1.out.cell (j := a + t) (by rw [HS.out]; omega); have k1 := HK1.out.froz (j := a + t) (by rw [HS.out]; omega); rw [HY.out] at c1; have c2 := HK1.out.cell (j := i) (by rw [HS.out]; omega); have k2 := HK1.out.froz (j := i) (by rw [HS.out]; omega); rw [HXX.out] at c2)
          go_region
          go_wp2
          refine ⟨⟨i + 1, k, xorNext r, swp dk (i) (a + t), by go_num, by omega, by omega, Lib.hid (by rw [swp_size]; exact HS.out), Lib.hid ((HK1.out.swp (by rw [HS.out]; omega) (by rw [HS.out]; omega) HY.out HXX.out).drew), Lib.hid (by rw [Go.Sort.xorNext_toNat, HXN.out]; exact ((HX1.out.other hne _).other hne _).nil (Mods.refl Nil _).drew), Lib.hid (HST.out.symm.trans HO.out)⟩, by simp [intOf]; omega⟩
      · have hom : o < m := by omega
        have HST := Lib.hid (bpR_lo (a := a) (m := m) (d := dk) (i := i) (k := k) HXN.out HOO.out hom)
        obtain ⟨y, hy⟩ : ∃ y, dk[a + o]! = y := ⟨_, rfl⟩
        have HY := Lib.hid hy
        clear hy
        by_cases hit : i = a + o
        · subst hit
          have wt : IntKind.i64.wrap ((a : Int) + (o : Int)) = (a : Int) + (o : Int) := by rw [IntKind.wrap_i64]; omega
          go_wp2_with (go_at_call 79; refine (HNX.out _ HX.out).mono ?_; rintro e w1 ⟨rfl, hw1⟩; have HK1 := Lib.hid (show Rw w w1 blk off dk by rw [hw1]; exact (HK.out.other hne (Nat.le_refl _) _).drewN 3); have HX1 := Lib.hid (show Rx w1 w.heap.size X by rw [hw1]; exact (HX.out.set X).nil ((Mods.refl Nil _).drewN 3)); clear hw1; have c1 := HK1.out.cell (j := a + o) (by rw [HS.out]; omega); have k1 := HK1.out.froz (j := a + o) (by rw [HS.out]; omega); rw [HY.out] at c1)
          go_region
          go_wp2
          refine ⟨⟨a + o + 1, k, xorNext r, swp dk (a + o) (a + o), by go_num, by omega, by omega, Lib.hid (by rw [swp_size]; exact HS.out), Lib.hid ((HK1.out.swp (by rw [HS.out]; omega) (by rw [HS.out]; omega) HY.out HY.out).drew), Lib.hid (by rw [Go.Sort.xorNext_toNat, HXN.out]; exact ((HX1.out.other hne _).other hne _).nil (Mods.refl Nil _).drew), Lib.hid (HST.out.symm.trans HO.out)⟩, by simp [intOf]; omega⟩
        · obtain ⟨x, hx⟩ : ∃ x, dk[i]! = x := ⟨_, rfl⟩
          have HXX := Lib.hid hx
          clear hx
          have wt : IntKind.i64.wrap ((a : Int) + (o : Int)) = (a : Int) + (o : Int) := by rw [IntKind.wrap_i64]; omega
          go_wp2_with (go_at_call 79; refine (HNX.out _ HX.out).mono ?_; rintro e w1 ⟨rfl, hw1⟩; have HK1 := Lib.hid (show Rw w w1 blk off dk by rw [hw1]; exact (HK.out.other hne (Nat.le_refl _) _).drewN 3); have HX1 := Lib.hid (show Rx w1 w.heap.size X by rw [hw1]; exact (HX.out.set X).nil ((Mods.refl Nil _).drewN 3)); clear hw1; have c1 := HK1.out.cell (j := a + o) (by rw [HS.out]; omega); have k1 := HK1.out.froz (j := a + o) (by rw [HS.out]; omega); rw [HY.out] at c1; have c2 := HK1.out.cell (j := i) (by rw [HS.out]; omega); have k2 := HK1.out.froz (j := i) (by rw [HS.out]; omega); rw [HXX.out] at c2)
          go_region
          go_wp2
          refine ⟨⟨i + 1, k, xorNext r, swp dk (i) (a + o), by go_num, by omega, by omega, Lib.hid (by rw [swp_size]; exact HS.out), Lib.hid ((HK1.out.swp (by rw [HS.out]; omega) (by rw [HS.out]; omega) HY.out HXX.out).drew), Lib.hid (by rw [Go.Sort.xorNext_toNat, HXN.out]; exact ((HX1.out.other hne _).other hne _).nil (Mods.refl Nil _).drew), Lib.hid (HST.out.symm.trans HO.out)⟩, by simp [intOf]; omega⟩
end Go.Proofs.Ytpabbhhaagfoeaa
end

section
/- slices.Sort of numbers: pdqsortOrdered, told in steps. No program. -/
namespace Go.Proofs.Ytpabbhhaagfoeaa
set_option maxRecDepth 100000
open Go.RowKit
set_option linter.unusedVariables false
set_option linter.unusedSimpArgs false
open Go.Sort (pdq partition partitionEqual partialInsertionSort choosePivot reverseRange breakPatterns ltInt Hint insertionSort heapSort)
/-- From the partition on. -/
def pdqT (d : Array Int) (a b l p : Nat) (wb wp : Bool) : Array Int :=
  if a > 0 && !ltInt d[a - 1]! d[p]! then (if a < (partitionEqual ltInt d a b p).1 ∧ (partitionEqual ltInt d a b p).1 ≤ b then pdq ltInt (partitionEqual ltInt d a b p).2 (partitionEqual ltInt d a b p).1 b l wb wp else (partitionEqual ltInt d a b p).2)
  else
    let r := partition ltInt d a b p
    if a ≤ r.1 ∧ r.1 < b then
      if r.1 - a < b - r.1 then pdq ltInt (pdq ltInt r.2.2 a r.1 l true true) (r.1 + 1) b l (decide (r.1 - a ≥ (b - a) / 8)) r.2.1
      else pdq ltInt (pdq ltInt r.2.2 (r.1 + 1) b l true true) a r.1 l (decide (b - r.1 ≥ (b - a) / 8)) r.2.1
    else r.2.2
/-- From the partial insertion sort on. -/
def pdqP (d : Array Int) (a b l p : Nat) (h : Hint) (wb wp : Bool) : Array Int :=
  if wb && wp && decide (h = .increasing) then (if (partialInsertionSort ltInt d a b).2 then (partialInsertionSort ltInt d a b).1 else pdqT (partialInsertionSort ltInt d a b).1 a b l p wb wp) else pdqT d a b l p wb wp
theorem pdq_small {d : Array Int} {a b l : Nat} {wb wp : Bool} (h : b - a ≤ 12) : pdq ltInt d a b l wb wp = insertionSort ltInt d a b := by
  rw [pdq, if_pos h]
theorem pdq_heap {d : Array Int} {a b : Nat} {wb wp : Bool} (h : 12 < b - a) : pdq ltInt d a b 0 wb wp = heapSort ltInt d a b := by
  rw [pdq, if_neg (by omega), if_pos rfl]
def d1F (d : Array Int) (a b : Nat) (wb : Bool) : Array Int := if !wb then breakPatterns d a b else d
def l1F (l : Nat) (wb : Bool) : Nat := if !wb then l - 1 else l
def d2F (d : Array Int) (a b : Nat) (h : Hint) : Array Int := if h = .decreasing then reverseRange d a b else d
def p2F (a b p : Nat) (h : Hint) : Nat := if h = .decreasing then (b - 1) - (p - a) else p
def h2F (h : Hint) : Hint := if h = .decreasing then .increasing else h
theorem pdq_go {d : Array Int} {a b l p : Nat} {h : Hint} {wb wp : Bool} (h12 : 12 < b - a) (hl : l ≠ 0) (ec : choosePivot ltInt (d1F d a b wb) a b = (p, h)) :
    pdq ltInt d a b l wb wp = pdqP (d2F (d1F d a b wb) a b h) a b (l1F l wb) (p2F a b p h) (h2F h) wb wp := by
  rw [pdq, if_neg (by omega), if_neg hl]
  unfold d1F at ec
  simp only [ec]
  unfold pdqP pdqT d2F p2F h2F d1F l1F
  by_cases hc : (wb && wp && decide ((if h = Hint.decreasing then Hint.increasing else h) = Hint.increasing)) = true
  · simp only [hc, if_true]
    rfl
  · rw [if_neg hc, if_neg hc]
    rfl
theorem pdqP_no {d : Array Int} {a b l p : Nat} {h : Hint} {wb wp : Bool} (hc : (wb && wp && decide (h = .increasing)) = false) : pdqP d a b l p h wb wp = pdqT d a b l p wb wp := by
  unfold pdqP
  rw [if_neg (by rw [hc]; simp)]
theorem pdqP_done {d d' : Array Int} {a b l p : Nat} {h : Hint} {wb wp : Bool} (hc : (wb && wp && decide (h = .increasing)) = true) (e : partialInsertionSort ltInt d a b = (d', true)) : pdqP d a b l p h wb wp = d' := by
  unfold pdqP
  rw [if_pos hc, e]
  simp
theorem pdqP_on {d d' : Array Int} {a b l p : Nat} {h : Hint} {wb wp : Bool} (hc : (wb && wp && decide (h = .increasing)) = true) (e : partialInsertionSort ltInt d a b = (d', false)) : pdqP d a b l p h wb wp = pdqT d' a b l p wb wp := by
  unfold pdqP
  rw [if_pos hc, e]
  simp
theorem pdqT_eq {d d' : Array Int} {a b l p q : Nat} {wb wp : Bool} (ha : 0 < a) (hl : ltInt d[a - 1]! d[p]! = false) (e : partitionEqual ltInt d a b p = (q, d')) (h1 : a < q) (h2 : q ≤ b) : pdqT d a b l p wb wp = pdq ltInt d' q b l wb wp := by
  unfold pdqT
  rw [hl]
  simp only [Bool.not_false, Bool.and_true, decide_eq_true_eq]
  rw [if_pos ha, e]
  simp only
  rw [if_pos ⟨h1, h2⟩]
theorem pdqT_left {d d' : Array Int} {a b l p q : Nat} {f : Bool} {wb wp : Bool} (hg : (decide (a > 0) && !ltInt d[a - 1]! d[p]!) = false) (e : partition ltInt d a b p = (q, f, d')) (h1 : a ≤ q) (h2 : q < b) (h : q - a < b - q) :
    pdqT d a b l p wb wp = pdq ltInt (pdq ltInt d' a q l true true) (q + 1) b l (decide (q - a ≥ (b - a) / 8)) f := by
  unfold pdqT
  rw [if_neg (by rw [hg]; simp), e]
  simp only
  rw [if_pos ⟨h1, h2⟩, if_pos h]
theorem pdqT_right {d d' : Array Int} {a b l p q : Nat} {f : Bool} {wb wp : Bool} (hg : (decide (a > 0) && !ltInt d[a - 1]! d[p]!) = false) (e : partition ltInt d a b p = (q, f, d')) (h1 : a ≤ q) (h2 : q < b) (h : b - q ≤ q - a) :
    pdqT d a b l p wb wp = pdq ltInt (pdq ltInt d' (q + 1) b l true true) a q l (decide (b - q ≥ (b - a) / 8)) f := by
  unfold pdqT
  rw [if_neg (by rw [hg]; simp), e]
  simp only
  rw [if_pos ⟨h1, h2⟩, if_neg (by omega)]
theorem reverse_size (d : Array Int) : ∀ i j : Nat, (Go.Sort.reverseLoop i j d).size = d.size := by
  intro i j
  have : ∀ (n : Nat) (d : Array Int) (i j : Nat), j - i ≤ n → (Go.Sort.reverseLoop i j d).size = d.size := by
    intro n
    induction n with
    | zero =>
      intro d i j h
      unfold Go.Sort.reverseLoop
      rw [if_neg (by omega)]
    | succ n ih =>
      intro d i j h
      unfold Go.Sort.reverseLoop
      split
      · rw [ih _ _ _ (by omega), swp_size]
      · rfl
  exact this _ d i j (Nat.le_refl _)
end Go.Proofs.Ytpabbhhaagfoeaa
end

section
/- slices.Sort of numbers: pdqsortOrdered. -/
namespace Go.Proofs.Ytpabbhhaagfoeaa
set_option maxRecDepth 100000
open Go.RowKit
set_option linter.unusedVariables false
set_option linter.unusedSimpArgs false
open Go.Sort (pdq partition partitionEqual partialInsertionSort choosePivot reverseRange breakPatterns ltInt Hint insertionSort heapSort)
/-- What a call of pdqsortOrdered tells. -/
def DTold (w : World) (d : Array Int) (a b l blk off n : Nat) (e : Ending) (w' : World) : Prop :=
  e = .returned (.tuple #[]) ∧ ∃ d', d' = pdq ltInt d a b l true true ∧ d'.size = n ∧ Rw w w' blk off d'
def DCall (N : Nat) : Prop := ∀ (w : World) {blk off cap a b l n : Nat} {d : Array Int}, b - a ≤ N → Rw w w blk off d → d.size = n → a ≤ b → b ≤ n → n < 4611686018427387904 → l ≤ 1000 →
  Calls Try.prog 63 #[.slice (some ⟨blk, off, none⟩) n cap, .int .i64 (a : Int), .int .i64 (b : Int), .int .i64 (l : Int)] w (DTold w d a b l blk off n)
theorem ins_size {d : Array Int} : ∀ (k : Nat) (a : Nat) (d : Array Int), (Go.Sort.insInner ltInt a k d).size = d.size
  | 0, a, d => rfl
  | k + 1, a, d => by
    unfold Go.Sort.insInner
    split
    · rw [ins_size (d := d) k, swp_size]
    · rfl
theorem insO_size (a b : Nat) : ∀ (n i : Nat) (d : Array Int), b - i ≤ n → (Go.Sort.insOuter ltInt a b i d).size = d.size := by
  intro n
  induction n with
  | zero =>
    intro i d h
    unfold Go.Sort.insOuter
    rw [if_neg (by omega)]
  | succ n ih =>
    intro i d h
    unfold Go.Sort.insOuter
    split
    · rw [ih _ _ (by omega), ins_size (d := d)]
    · rfl
theorem insS_size (a b : Nat) (d : Array Int) : (insertionSort ltInt d a b).size = d.size := insO_size a b _ _ _ (Nat.le_refl _)
set_option maxHeartbeats 8000000 in
theorem spdq_step {N : Nat} (IH : ∀ M, M < N → DCall M) : DCall N := by
  intro w blk off cap a0 b0 l0 n d0 hN hR hn hab hbn hsz hl
  have HR := Lib.hid hR
  have HN := Lib.hid hn
  have HIH := Lib.hid IH
  clear hR hn IH
  go_enter Try.func63, Try.ntmps63
  go_wp2_with fail
  go_loopw [1, 2, 3, 8, 9] (fun u1 u2 u3 u8 u9 wr => ∃ (a m l : Nat) (wb wp : Bool) (dk : Array Int), u1 = .int .i64 (a : Int) ∧ u2 = .int .i64 ((a + m : Nat) : Int) ∧ u3 = .int .i64 (l : Int) ∧ u8 = .bool wb ∧ u9 = .bool wp ∧ a + m ≤ n ∧ m ≤ N ∧ l ≤ 1000 ∧ Hid (dk.size = n) ∧ Hid (Rw w wr blk off dk) ∧ Hid (pdq ltInt dk a (a + m) l wb wp = pdq ltInt d0 a0 b0 l0 true true)) (fun u1 u2 _ _ _ _ => (intOf u2).toNat - (intOf u1).toNat)
  case atStart =>
    obtain ⟨m, rfl⟩ : ∃ m, b0 = a0 + m := ⟨b0 - a0, by omega⟩
    exact ⟨a0, m, l0, true, true, d0, rfl, rfl, rfl, rfl, rfl, by omega, by omega, hl, HN, HR, Lib.hid rfl⟩
  case round =>
    obtain ⟨a, m, l, wb, wp, dk, rfl, rfl, rfl, rfl, rfl, hmn, hmN, hl1, HS, HK, HO⟩ := hrel
    obtain ⟨b, hb⟩ : ∃ b, a + m = b := ⟨_, rfl⟩
    rw [hb] at HO hmn ⊢
    have hmI : (b : Int) - (a : Int) = (m : Int) := by omega
    have HB := Lib.hid hb
    clear hb
    rcases Nat.lt_or_ge 12 m with h12 | h12
    · cases l with
      | zero =>
        have h12I : (12 : Int) < (m : Int) := by omega
        go_wp2_with (first
          | (go_at_call 67; refine (sheap_any _ HK.out.self HS.out HB.out.symm (by omega) hsz).mono ?_; rintro e w' ⟨rfl, d', hd, hs, hr⟩; have HRR := Lib.hid hr; have HDD := Lib.hid hd; have HSS := Lib.hid hs; clear hd hs hr))
        exact bodyPost_end (results_none rfl _ _ _) rfl ⟨rfl, d', by rw [HDD.out, ← HO.out, pdq_heap (by have := HB.out; omega)], HSS.out, HK.out.trans HRR.out⟩
      | succ l =>
        have h12I : (12 : Int) < (m : Int) := by omega
        have hlI : ((l : Int) + 1 == 0) = false := by simp; omega
        have hlI2 : (((l + 1 : Nat) : Int) == 0) = false := by simp; omega
        have hab : a + 12 < b := by have := HB.out; omega
        go_upto_if 35 with fail
        go_cut [3] from 19 to 133 (fun s3 wx => ∃ (l1 : Nat) (d1 : Array Int), s3 = .int .i64 (l1 : Int) ∧ l1 ≤ 1000 ∧ Hid (l1 = l1F (l + 1) wb) ∧ Hid (d1 = d1F dk a b wb) ∧ Hid (d1.size = n) ∧ Hid (Rw w wx blk off d1))
        case first =>
          cases wb with
          | true =>
            go_wp2_with fail
            go_meet
            case rel => exact ⟨l + 1, dk, rfl, hl1, Lib.hid rfl, Lib.hid rfl, HS, HK⟩
          | false =>
            go_wp2_with (first
              | (go_at_call 68; refine (sbrk_any _ HK.out.self HS.out hab (by omega) hsz).mono ?_; rintro e w' ⟨rfl, d', hd, hs, hr⟩; have HRR := Lib.hid hr; have HDD := Lib.hid hd; have HSS := Lib.hid hs; clear hd hs hr))
            go_meet
            case rel => exact ⟨l, d', by go_num, by omega, Lib.hid rfl, HDD, HSS, Lib.hid (HK.out.trans HRR.out)⟩
        case rest =>
          obtain ⟨l1, d1, rfl, hl2, HL1, HD1, HS1, HK1⟩ := hcut
          obtain ⟨wa, hwa⟩ : ∃ x, x = wc := ⟨_, rfl⟩
          subst hwa
          go_upto_if 50 with (first
            | (go_at_call 69; refine (spiv_any _ HK1.out.self HS1.out hab (by omega) hsz).mono ?_; rintro e w' ⟨p, h, hp, hap, hpb, rfl, hm⟩; have HK2 := Lib.hid (HK1.out.nil hm); have HP := Lib.hid hp; clear hm hp))
          go_cut [11, 12] from 19 to 133 (fun s11 s12 wx => ∃ (p2 : Nat) (d2 : Array Int), s11 = .int .i64 (p2 : Int) ∧ s12 = .int .i64 (hintN (h2F h)) ∧ a < p2 ∧ p2 < b ∧ Hid (p2 = p2F a b p h) ∧ Hid (d2 = d2F d1 a b h) ∧ Hid (d2.size = n) ∧ Hid (Rw w wx blk off d2))
          case first =>
            cases h with
            | unknown =>
              dsimp only [hintN]
              go_wp2_with fail
              go_meet
              case rel => exact ⟨p, d1, rfl, rfl, hap, by omega, Lib.hid rfl, Lib.hid rfl, HS1, HK2⟩
            | increasing =>
              dsimp only [hintN]
              go_wp2_with fail
              go_meet
              case rel => exact ⟨p, d1, rfl, rfl, hap, by omega, Lib.hid rfl, Lib.hid rfl, HS1, HK2⟩
            | decreasing =>
              obtain ⟨p2, hp2⟩ : ∃ p2, (b - 1) - (p - a) = p2 := ⟨_, rfl⟩
              have hpI : (b : Int) - 1 - ((p : Int) - (a : Int)) = (p2 : Int) := by omega
              have hp3 : a < p2 ∧ p2 < b := by omega
              have HP2 : Hid (p2 = p2F a b p .decreasing) := Lib.hid hp2.symm
              clear hp2
              dsimp only [hintN]
              go_wp2_with (first
                | (go_at_call 70; refine (srev_any _ HK2.out.self HS1.out (by omega) (by omega) hsz).mono ?_; rintro e w2 ⟨rfl, d', hd, hs, hr⟩; have HRR := Lib.hid hr; have HDD := Lib.hid hd; have HSS := Lib.hid hs; clear hd hs hr))
              go_meet
              case rel => exact ⟨p2, d', by go_num, rfl, hp3.1, hp3.2, HP2, HDD, HSS, Lib.hid (HK2.out.trans HRR.out)⟩
          case rest =>
            obtain ⟨p2, d2, rfl, rfl, hap2, hpb2, HP2, HD2, HS2, HK3⟩ := hcut
            obtain ⟨wb2, hwb2⟩ : ∃ x, x = wc := ⟨_, rfl⟩
            subst hwb2
            have HO2 : Hid (pdqP d2 a b l1 p2 (h2F h) wb wp = pdq ltInt d0 a0 b0 l0 true true) := Lib.hid (by
              have := HP.out
              rw [HD1.out] at this
              rw [HD2.out, HD1.out, HL1.out, HP2.out, ← pdq_go (by omega) (by omega) this]
              have e := HB.out
              rw [← HO.out])
            generalize h2F h = h2 at HO2 ⊢
            clear HP HP2 HD2 HD1 HL1 HO HK1 HK2
            go_upto_region 15 with fail
            go_cut [68] from 19 to 133 (fun s68 wx => s68 = .bool (wb && wp && decide (h2 = .increasing)) ∧ wx = wb2)
            case first =>
              cases wb <;> cases wp <;> cases h2
              all_goals
                dsimp only [hintN]
                go_wp2_with fail
                go_meet
                case rel => exact ⟨rfl, rfl⟩
            case rest =>
              obtain ⟨rfl, hw3⟩ := hcut
              have HK4 : Hid (Rw w wc blk off d2) := Lib.hid (by rw [hw3]; exact HK3.out)
              clear HK3 hw3
              obtain ⟨we, hwe⟩ : ∃ x, x = wc := ⟨_, rfl⟩
              subst hwe
              obtain ⟨B, hB⟩ : ∃ B, (wb && wp && decide (h2 = .increasing)) = B := ⟨_, rfl⟩
              rw [hB]
              have HBB := Lib.hid hB
              clear hB
              go_upto_if 68 with fail
              go_cut [9] from 19 to 133 (fun s9 wx => s9 = .bool wp ∧ ∃ d3 : Array Int, Hid (d3.size = n) ∧ Hid (Rw w wx blk off d3) ∧ Hid (pdqT d3 a b l1 p2 wb wp = pdq ltInt d0 a0 b0 l0 true true))
              case first =>
                cases B with
                | false =>
                  go_wp2_with fail
                  go_meet
                  case rel => exact ⟨rfl, d2, HS2, HK4, Lib.hid (by rw [← pdqP_no HBB.out]; exact HO2.out)⟩
                | true =>
                  go_wp2_with (first
                    | (go_at_call 71; refine (spins_any _ HK4.out.self HS2.out (by omega) (by omega) hsz).mono ?_; rintro e w2 ⟨d', f, hd, rfl, hs, hr⟩; have HRR := Lib.hid hr; have HDD := Lib.hid hd; have HSS := Lib.hid hs; clear hd hs hr))
                  · have hf : f = true := by assumption
                    subst hf
                    exact bodyPost_ret (results_none rfl _ _ _) rfl ⟨rfl, d', (by have h1 := HO2.out; rw [pdqP_done HBB.out HDD.out] at h1; exact h1), HSS.out, HK4.out.trans HRR.out⟩
                  · have hf : f = false := by assumption
                    subst hf
                    go_meet
                    case rel => exact ⟨rfl, d', HSS, Lib.hid (HK4.out.trans HRR.out), Lib.hid (by rw [← pdqP_on HBB.out HDD.out]; exact HO2.out)⟩
              case rest =>
                obtain ⟨rfl, d3, HS3, HK5, HO3⟩ := hcut
                clear HS2 HK4 HO2 HBB
                obtain ⟨wf, hwf⟩ : ∃ x, x = wc := ⟨_, rfl⟩
                subst hwf
                obtain ⟨y, hy⟩ : ∃ y, d3[p2]! = y := ⟨_, rfl⟩
                have HY := Lib.hid hy
                have c2 := HK5.out.cell (j := p2) (by rw [HS3.out]; omega)
                rw [hy] at c2
                clear hy
                have HPT : Hid (∀ W, Rw W W blk off d3 → Calls Try.prog 74 #[.slice (some ⟨blk, off, none⟩) n cap, .int .i64 (a : Int), .int .i64 (b : Int), .int .i64 (p2 : Int)] W (XTold W d3 a b p2 blk off n)) := Lib.hid (fun W hW => by
                  obtain ⟨b1, rfl⟩ : ∃ b1, b = b1 + 1 := ⟨b - 1, by omega⟩
                  exact spart_any W hW HS3.out hap2 (by omega) (by omega) hsz)
                have HPE : Hid (∀ W, Rw W W blk off d3 → Calls Try.prog 73 #[.slice (some ⟨blk, off, none⟩) n cap, .int .i64 (a : Int), .int .i64 (b : Int), .int .i64 (p2 : Int)] W (ETold W d3 a b p2 blk off n)) := Lib.hid (fun W hW => by
                  obtain ⟨b1, rfl⟩ : ∃ b1, b = b1 + 1 := ⟨b - 1, by omega⟩
                  exact speq_any W hW HS3.out hap2 (by omega) (by omega) hsz)
                obtain ⟨t8, ht8⟩ : ∃ t8, m / 8 = t8 := ⟨_, rfl⟩
                have ht8I : (m : Int).tdiv 8 = (t8 : Int) := by rw [Int.tdiv_eq_ediv_of_nonneg (by omega)]; omega
                have HW8 : Hid (wrap64 (t8 : Int) = (t8 : Int)) := Lib.hid (by have : t8 ≤ m := by omega
                                                                               unfold wrap64; omega)
                have HT8 := Lib.hid ht8
                clear ht8
                go_upto_region 17 with fail
                go_cut [87] from 19 to 133 (fun s87 wx => ∃ G : Bool, s87 = .bool G ∧ Hid (Rw w wx blk off d3) ∧ Hid (G = (decide (a > 0) && !ltInt d3[a - 1]! d3[p2]!)))
                case first =>
                  by_cases ha0 : 0 < a
                  · obtain ⟨a1, ha1⟩ : ∃ a1, a - 1 = a1 := ⟨_, rfl⟩
                    have ha1I : (a : Int) - 1 = (a1 : Int) := by omega
                    obtain ⟨x, hx⟩ : ∃ x, d3[a1]! = x := ⟨_, rfl⟩
                    have HX := Lib.hid hx
                    have c1 := HK5.out.cell (j := a1) (by rw [HS3.out]; omega)
                    rw [hx] at c1
                    have hd : decide ((0 : Int) < (a : Int)) = true := by simp; omega
                    have hdN : decide (0 < a) = true := by simp; omega
                    have HA1 := Lib.hid ha1
                    have wa1 : IntKind.i64.wrap (a1 : Int) = (a1 : Int) := by rw [IntKind.wrap_i64]; omega
                    clear hx ha1
                    go_wp2_with fail
                    go_quiet ((go_at_call 72; exact (sless_any _ _ _).mono fun _ _ h => ⟨h.1, _, h.2⟩))
                    go_wp2_with fail
                    go_meet
                    case rel => exact ⟨!ltInt x y, rfl, Lib.hid (HK5.out.drewN _), Lib.hid (by rw [HA1.out, HX.out, HY.out, show decide (a > 0) = true from hdN, Bool.true_and])⟩
                  · have hd : decide ((0 : Int) < (a : Int)) = false := by simp; omega
                    have hdN : decide (0 < a) = false := by simp; omega
                    go_wp2_with fail
                    go_quiet (fail)
                    go_wp2_with fail
                    go_meet
                    case rel => exact ⟨false, rfl, Lib.hid (HK5.out.drewN _), Lib.hid (by rw [show decide (a > 0) = false from hdN, Bool.false_and])⟩
                case rest =>
                  obtain ⟨G, rfl, HK6, HG⟩ := hcut
                  clear HK5 c2
                  obtain ⟨wg, hwg⟩ : ∃ x, x = wc := ⟨_, rfl⟩
                  subst hwg
                  cases G with
                  | true =>
                    have hga : 0 < a ∧ ltInt d3[a - 1]! d3[p2]! = false := by
                      have := HG.out.symm
                      rw [Bool.and_eq_true] at this
                      exact ⟨by simpa using this.1, by simpa using this.2⟩
                    have HGA := Lib.hid hga
                    clear hga
                    go_wp2_with (first
                      | (go_at_call 73; refine (HPE.out _ HK6.out.self).mono ?_; rintro e w2 ⟨q, d', hd, haq, hqb, rfl, hs, hr⟩; have HRR := Lib.hid hr; have HDD := Lib.hid hd; have HSS := Lib.hid hs; clear hd hs hr))
                    refine ⟨⟨q, b - q, l1, wb, wp, d', rfl, by rw [show q + (b - q) = b by omega], rfl, rfl, rfl, by omega, by have := HB.out; omega, hl2, HSS, Lib.hid (HK6.out.trans HRR.out), Lib.hid ?_⟩, by simp [intOf]; omega⟩
                    rw [show q + (b - q) = b by omega, ← pdqT_eq HGA.out.1 HGA.out.2 HDD.out haq hqb]
                    exact HO3.out
                  | false =>
                    have HGF := Lib.hid HG.out.symm
                    go_upto_region 22 with (first
                      | (go_at_call 74; refine (HPT.out _ HK6.out.self).mono ?_; rintro e w2 ⟨q, f, d', hd, haq, hqb, rfl, hs, hr⟩; have HRR := Lib.hid hr; have HDD := Lib.hid hd; have HSS := Lib.hid hs; clear hd hs hr))
                    obtain ⟨L, hL⟩ : ∃ L, q - a = L := ⟨_, rfl⟩
                    obtain ⟨R, hR2⟩ : ∃ R, b - q = R := ⟨_, rfl⟩
                    have hLI : (q : Int) - (a : Int) = (L : Int) := by omega
                    have hRI : (b : Int) - (q : Int) = (R : Int) := by omega
                    have HLL := Lib.hid hL
                    have HRL := Lib.hid hR2
                    clear hL hR2
                    go_upto_if 113 with fail
                    by_cases hLR : L < R
                    · have hLRI : (L : Int) < (R : Int) := by omega
                      have HCL : Hid (∀ W, Rw W W blk off d' → Calls Try.prog 63 #[.slice (some ⟨blk, off, none⟩) n cap, .int .i64 (a : Int), .int .i64 (q : Int), .int .i64 (l1 : Int)] W (DTold W d' a q l1 blk off n)) := Lib.hid (fun W hW => HIH.out (q - a) (by have := HB.out; omega) W (Nat.le_refl _) hW HSS.out haq (by omega) hsz hl2)
                      have HEQ := Lib.hid (pdqT_left (l := l1) (wb := wb) (wp := wp) HGF.out HDD.out haq hqb (by rw [HLL.out, HRL.out]; exact hLR))
                      go_wp2_with (first
                        | (go_at_call 63; refine (HCL.out _ (HK6.out.trans HRR.out).self).mono ?_; rintro e w3 ⟨rfl, d5, hd, hs, hr⟩; have HR5 := Lib.hid hr; have HD5 := Lib.hid hd; have HS5 := Lib.hid hs; clear hd hs hr))
                      refine ⟨⟨q + 1, b - (q + 1), l1, decide (t8 ≤ L), f, d5, by go_num, by rw [show q + 1 + (b - (q + 1)) = b by omega], rfl, by first | rfl | simp [HW8.out], rfl, by omega, by have := HB.out; omega, hl2, HS5, Lib.hid ((HK6.out.trans HRR.out).trans HR5.out), Lib.hid ?_⟩, by simp [intOf]; omega⟩
                      have h1 := HEQ.out
                      rw [HLL.out, ← HD5.out, show b - a = m by have := HB.out; omega, HT8.out] at h1
                      rw [show q + 1 + (b - (q + 1)) = b by omega, ← HO3.out, h1]
                    · have hLRI : ¬ (L : Int) < (R : Int) := by omega
                      have HCR : Hid (∀ W, Rw W W blk off d' → Calls Try.prog 63 #[.slice (some ⟨blk, off, none⟩) n cap, .int .i64 ((q : Int) + 1), .int .i64 (b : Int), .int .i64 (l1 : Int)] W (DTold W d' (q + 1) b l1 blk off n)) := Lib.hid (fun W hW => HIH.out (b - (q + 1)) (by have := HB.out; omega) W (blk := blk) (off := off) (cap := cap) (a := q + 1) (b := b) (l := l1) (n := n) (d := d') (Nat.le_refl _) hW HSS.out (by omega) (by omega) hsz hl2)
                      have HEQ := Lib.hid (pdqT_right (l := l1) (wb := wb) (wp := wp) HGF.out HDD.out haq hqb (by rw [HLL.out, HRL.out]; omega))
                      go_wp2_with (first
                        | (go_at_call 63; refine (HCR.out _ (HK6.out.trans HRR.out).self).mono ?_; rintro e w3 ⟨rfl, d5, hd, hs, hr⟩; have HR5 := Lib.hid hr; have HD5 := Lib.hid hd; have HS5 := Lib.hid hs; clear hd hs hr))
                      refine ⟨⟨a, q - a, l1, decide (t8 ≤ R), f, d5, rfl, by rw [show a + (q - a) = q by omega], rfl, by first | rfl | simp [HW8.out], rfl, by omega, by have := HB.out; omega, hl2, HS5, Lib.hid ((HK6.out.trans HRR.out).trans HR5.out), Lib.hid ?_⟩, by simp [intOf]; omega⟩
                      have h1 := HEQ.out
                      rw [HRL.out, ← HD5.out, show b - a = m by have := HB.out; omega, HT8.out] at h1
                      rw [show a + (q - a) = q by omega, ← HO3.out, h1]
    · go_wp2_with (first
        | (go_at_call 66; refine (by have := sins_any wr (cap := cap) (a := a) (b := b) HK.out.self (by omega) (by rw [HS.out]; omega) (by rw [HS.out]; exact hsz); rw [HS.out] at this; exact this : Calls Try.prog 66 _ wr _).mono ?_; rintro e w' ⟨rfl, d', hd, hr⟩; have HRR := Lib.hid hr; have HDD := Lib.hid hd; clear hd hr))
      exact bodyPost_end (results_none rfl _ _ _) rfl ⟨rfl, d', by rw [HDD.out, ← HO.out, pdq_small (by have := HB.out; omega)], by rw [HDD.out, insS_size]; exact HS.out, HK.out.trans HRR.out⟩
theorem spdq_all (N : Nat) : DCall N := by
  induction N using Nat.strongRecOn with
  | ind N ih => exact spdq_step ih
theorem spdq_any (w : World) {blk off cap a b l n : Nat} {d : Array Int} (hR : Rw w w blk off d) (hn : d.size = n) (hab : a ≤ b) (hb : b ≤ n) (hsz : n < 4611686018427387904) (hl : l ≤ 1000) :
    Calls Try.prog 63 #[.slice (some ⟨blk, off, none⟩) n cap, .int .i64 (a : Int), .int .i64 (b : Int), .int .i64 (l : Int)] w (DTold w d a b l blk off n) :=
  spdq_all (b - a) w (Nat.le_refl _) hR hn hab hb hsz hl
end Go.Proofs.Ytpabbhhaagfoeaa
end

section
/- slices.Sort of numbers. -/
namespace Go.Proofs.Ytpabbhhaagfoeaa
set_option maxRecDepth 100000
open Go.RowKit
set_option linter.unusedVariables false
set_option linter.unusedSimpArgs false
open Go.Sort (ltInt bitsLen)
theorem sbits_any (w : World) {n : Nat} (hn : n < 4611686018427387904) : Calls Try.prog 64 #[.int .u64 (n : Int)] w fun e w' => e = .returned (.int .i64 ((bitsLen n : Nat) : Int)) ∧ w' = w := by
  have h := Any.bits_Len (SlLaysF0.n15.bits (P := Try.prog) (ρ := xorS_ren) { pow2S with }) (n : Int) w (by omega) (by omega)
  rw [Int.toNat_natCast, Go.Proofs.bitLen_eq _ (by omega)] at h
  exact h
theorem sins_none (A : Option Addr) (cap : Nat) (w : World) : Calls Try.prog 66 #[.slice A 0 cap, .int .i64 0, .int .i64 0] w fun e w' => e = .returned (.tuple #[]) ∧ w' = w := by
  go_enter Try.func66, Try.ntmps66
  go_wp2
  go_loopw [6] (fun ui wr => ui = .int .i64 1 ∧ wr = w) (fun ui _ => 1)
  case atStart => exact ⟨rfl, rfl⟩
  case round =>
    obtain ⟨rfl, rfl⟩ := hrel
    go_wp2
    exact bodyPost_end (results_none rfl _ _ _) rfl ⟨rfl, rfl⟩
theorem spdq_none (A : Option Addr) (cap : Nat) (l : Int) (w : World) : Calls Try.prog 63 #[.slice A 0 cap, .int .i64 0, .int .i64 0, .int .i64 l] w fun e w' => e = .returned (.tuple #[]) ∧ w' = w := by
  go_enter Try.func63, Try.ntmps63
  go_wp2_with fail
  go_loopw [1, 2] (fun u1 u2 wr => u1 = .int .i64 0 ∧ u2 = .int .i64 0 ∧ wr = w) (fun u1 u2 _ => 1)
  case atStart => exact ⟨rfl, rfl, rfl⟩
  case round =>
    obtain ⟨rfl, rfl, rfl⟩ := hrel
    go_wp2_with (go_at_call 66; refine (sins_none _ _ _).mono ?_; rintro e w' ⟨rfl, rfl⟩)
    exact bodyPost_ret (results_none rfl _ _ _) rfl ⟨rfl, rfl⟩
theorem ssort_none (A : Option Addr) (cap : Nat) (w : World) : Calls Try.prog 58 #[.slice A 0 cap] w fun e w' => e = .returned (.tuple #[]) ∧ w' = w := by
  have hb : ∀ W, Calls Try.prog 64 #[.int .u64 0] W fun e w' => e = .returned (.int .i64 ((bitsLen 0 : Nat) : Int)) ∧ w' = W := fun W => sbits_any W (n := 0) (by omega)
  have HB := Lib.hid hb
  clear hb
  go_enter Try.func58, Try.ntmps58
  go_wp2_with (first
    | (go_at_call 64; refine (HB.out _).mono ?_; rintro e w' ⟨rfl, rfl⟩)
    | (go_at_call 63; refine (spdq_none _ _ _ _).mono ?_; rintro e w' ⟨rfl, rfl⟩))
  exact bodyPost_end (results_none rfl _ _ _) rfl ⟨rfl, rfl⟩
theorem ssort_row (w : World) {blk off cap n : Nat} {d : Array Int} (hR : Rw w w blk off d) (hn : d.size = n) (hsz : n < 4611686018427387904) :
    Calls Try.prog 58 #[.slice (some ⟨blk, off, none⟩) n cap] w fun e w' => e = .returned (.tuple #[]) ∧ ∃ d', d' = Go.Sort.sort ltInt d ∧ d'.size = n ∧ Rw w w' blk off d' := by
  obtain ⟨l, hl⟩ : ∃ l, bitsLen n = l := ⟨_, rfl⟩
  have hl2 : l ≤ 62 := by rw [← hl]; exact (Go.Sort.bitsLen_le_iff n 62).2 (by omega)
  have HB : Hid (∀ W, Calls Try.prog 64 #[.int .u64 (n : Int)] W fun e w' => e = .returned (.int .i64 (l : Int)) ∧ w' = W) := Lib.hid (fun W => by rw [← hl]; exact sbits_any W hsz)
  have HR := Lib.hid hR
  have HN := Lib.hid hn
  have HE : Hid (Go.Sort.pdq ltInt d 0 n l true true = Go.Sort.sort ltInt d) := Lib.hid (by rw [Go.Sort.sort, hn, hl])
  have wr : IntKind.u64.wrap (n : Int) = n := by rw [IntKind.wrap_u64]; omega
  clear hR hn hl
  go_enter Try.func58, Try.ntmps58
  go_wp2_with (first
    | (go_at_call 64; refine (HB.out _).mono ?_; rintro e w' ⟨rfl, rfl⟩)
    | (go_at_call 63; refine (spdq_any _ (a := 0) HR.out HN.out (Nat.zero_le _) (Nat.le_refl _) hsz (by omega)).mono ?_; rintro e w2 ⟨rfl, d', hd, hs, hr⟩; have HRR := Lib.hid hr; have HDD := Lib.hid hd; have HSS := Lib.hid hs; clear hd hs hr))
  exact bodyPost_end (results_none rfl _ _ _) rfl ⟨rfl, d', by rw [HDD.out]; exact HE.out, HSS.out, HRR.out⟩
/-- A row of numbers of the call's own is sorted where it lies. -/
theorem ssort_own {w : World} {base n : Nat} {v : Value} {xs : List Int} (h : w.ownsRow base 28 1 v n (xs.map nv)) (hsz : n < 4611686018427387904) :
    Calls Try.prog 58 #[v] w fun e w' => e = .returned (.tuple #[]) ∧ w'.ownsRow base 28 1 v n ((xs.mergeSort fun x y => decide (x ≤ y)).map nv) ∧ Mods (fun k => v.ownBlock = some k) w w' := by
  have hl := h.1
  simp at hl
  rcases Nat.eq_zero_or_pos n with h0 | h0
  · subst h0
    obtain rfl : xs = [] := List.eq_nil_of_length_eq_zero hl
    obtain ⟨A, c, rfl, -⟩ := own_slice h
    refine (ssort_none A c w).mono ?_
    rintro e w' ⟨rfl, rfl⟩
    exact ⟨rfl, by simpa using h, Mods.refl _ _⟩
  · obtain ⟨g, cap, cur, rfl, hb, hg, hB, hle, hmx, hcs, htk, hcell, hfr⟩ := own_place h h0
    have hH : Go.Sort.Holds nv w g 0 xs.toArray := fun j hj => by
      have hj' : j < xs.length := by simpa using hj
      refine ⟨?_, hfr _⟩
      rw [Nat.zero_add]
      refine hcell j _ ?_
      rw [List.getElem?_map, List.getElem?_eq_getElem hj']
      simp [getElem!_pos, hj']
    refine (ssort_row w (blk := g) (off := 0) (cap := cap) (n := n) (d := xs.toArray) (Rw.start hg (by simpa [hl] using h0) hH) (by simpa using hl) hsz).mono ?_
    rintro e w' ⟨rfl, d', hd, hs, hr⟩
    have hsort : d'.toList = xs.mergeSort (fun x y => decide (x ≤ y)) := by rw [hd]; exact Go.Sort.sortInt xs
    obtain ⟨c, c', e, fr, h1, h2, h3⟩ := hr.same
    have hgB : w.heap[g]? = some (.cells cur 28 (0, 0)) := hB
    rw [hgB] at h1
    injection h1 with h1
    injection h1 with h1 h4 h5
    subst h1; subst h4; subst h5
    refine ⟨rfl, ⟨by simp [hl], .inr ⟨g, cap, c', rfl, hb, h2, hle, hmx, by rw [h3]; exact hcs, ?_⟩⟩, hr.mods.mono (fun k _ hk => by subst hk; rfl)⟩
    rw [← hsort]
    apply List.ext_getElem?
    intro j
    rw [Nat.mul_one]
    by_cases hj : j < n
    · have hj2 : j < d'.size := by omega
      have hc := (hr.holds j hj2).1
      rw [World.cell?, h2] at hc
      rw [List.getElem?_take_of_lt hj, List.getElem?_map]
      simp only [Nat.zero_add, Array.getElem?_toList] at hc ⊢
      rw [Array.getElem?_eq_getElem hj2]
      simpa [getElem!_pos, hj2] using hc
    · rw [List.getElem?_eq_none (by simp; omega), List.getElem?_eq_none (by simp; omega)]
end Go.Proofs.Ytpabbhhaagfoeaa
end
