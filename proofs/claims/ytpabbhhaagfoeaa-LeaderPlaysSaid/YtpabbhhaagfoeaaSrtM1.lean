/- Texts laid as one: Srt0, Srt1, Srt2, Srt3, Srt4, Srt5. -/
import Derived.Test.YtpabbhhaagfoeaaBaseM
import Derived.Sort.AssemblyPlain
import Derived.Sort.Row
import Derived.BigQuiet
import Derived.Deep.RegionHeld

section
/- slices.Sort of numbers (uint64): what a row in memory is between two calls; cmp.Less. -/
namespace Go.Proofs.Ytpabbhhaagfoeaa
set_option maxRecDepth 100000
open Go.RowKit
set_option linter.unusedVariables false
set_option linter.unusedSimpArgs false

def nv (x : Int) : Value := .int .u64 x
/-- Between w0 and w: only block b may have changed, and at off it reads as d. -/
structure Rw (w0 w : World) (b off : Nat) (d : Array Int) : Prop where
  lt : b < w0.heap.size
  holds : Go.Sort.Holds nv w b off d
  mods : Mods (fun i => i = b) w0 w
  same : ∃ c c' e fr, w0.heap[b]? = some (.cells c e fr) ∧ w.heap[b]? = some (.cells c' e fr) ∧ c'.size = c.size
section
variable {w0 w w' : World} {b off : Nat} {d d' : Array Int}
theorem Rw.cell (h : Rw w0 w b off d) {j : Nat} (hj : j < d.size) : w.cell? ⟨b, off + j, none⟩ = some (.int .u64 d[j]!) := (h.holds j hj).1
theorem Rw.froz (h : Rw w0 w b off d) {j : Nat} (hj : j < d.size) : w.frozen? ⟨b, off + j, none⟩ = false := (h.holds j hj).2
theorem Rw.start (hb : b < w.heap.size) (hne : 0 < d.size) (h : Go.Sort.Holds nv w b off d) : Rw w w b off d := by
  obtain ⟨c, e, fr, hc, _⟩ := Go.Sort.cells_of_cell? (h 0 hne).1
  exact ⟨hb, h, Mods.refl _ _, c, c, e, fr, hc, hc, rfl⟩
theorem Rw.nil (h : Rw w0 w b off d) (hm : Mods Nil w w') : Rw w0 w' b off d := by
  have hlt : b < w.heap.size := Nat.lt_of_lt_of_le h.lt h.mods.size
  have hb := hm.block b hlt (fun h => h)
  obtain ⟨c, c', e, fr, h1, h2, h3⟩ := h.same
  refine ⟨h.lt, fun j hj => ?_, h.mods.trans (hm.mono (fun _ _ h => h.elim)), c, c', e, fr, h1, hb.trans h2, h3⟩
  have := h.holds j hj
  refine ⟨?_, ?_⟩
  · rw [World.cell?, hb]; exact this.1
  · rw [World.frozen?, hb]; exact this.2
theorem Rw.drew (h : Rw w0 w b off d) : Rw w0 w.drew b off d := h.nil (Mods.refl Nil w).drew
theorem Rw.drewN (h : Rw w0 w b off d) (n : Nat) : Rw w0 (w.drewN n) b off d := h.nil ((Mods.refl Nil w).drewN n)
theorem Rw.alloc (h : Rw w0 w b off d) (o : Obj) : Rw w0 (w.alloc o) b off d := h.nil ((Mods.refl Nil w).alloc o)
/-- What a call does to the row is done to the row. -/
theorem Rw.trans (h : Rw w0 w b off d) (k : Rw w w' b off d') : Rw w0 w' b off d' := by
  obtain ⟨c, c', e, fr, h1, h2, h3⟩ := h.same
  obtain ⟨k1, k2, f, gr, g1, g2, g3⟩ := k.same
  rw [h2] at g1
  injection g1 with g1
  injection g1 with g1 g4 g5
  subst g1; subst g4; subst g5
  exact ⟨h.lt, k.holds, h.mods.trans k.mods, c, k2, e, fr, h1, g2, g3.trans h3⟩
/-- The row as it stands, as the beginning of a call. -/
theorem Rw.self (h : Rw w0 w b off d) : Rw w w b off d := by
  obtain ⟨c, c', e, fr, h1, h2, h3⟩ := h.same
  exact ⟨Nat.lt_of_lt_of_le h.lt h.mods.size, h.holds, Mods.refl _ _, c', c', e, fr, h2, h2, rfl⟩
theorem Rw.set (h : Rw w0 w b off d) {i : Nat} (hi : i < d.size) (x : Int) : Rw w0 (w.setCell ⟨b, off + i, none⟩ (.int .u64 x)) b off (d.setIfInBounds i x) := by
  obtain ⟨c, c', e, fr, h1, h2, h3⟩ := h.same
  have hs : w.setCell ⟨b, off + i, none⟩ (.int .u64 x) = Go.Sort.mapBlock w b (·.setIfInBounds (off + i) (.int .u64 x)) := Go.Sort.setCell_eq _ _ _ _
  refine ⟨h.lt, fun j hj => ?_, h.mods.setCell (fun _ => rfl) _, c, c'.setIfInBounds (off + i) (.int .u64 x), e, fr, h1, ?_, by simpa using h3⟩
  · have hj' : j < d.size := by simpa using hj
    rw [hs, Go.Sort.frozen?_mapBlock, Go.Sort.cell?_mapBlock w b _ _ h2]
    refine ⟨?_, (h.holds j hj').2⟩
    have hc := (h.holds j hj').1
    rw [World.cell?, h2] at hc
    replace hc : c'[off + j]? = some (nv d[j]!) := by simpa using hc
    by_cases hij : j = i
    · subst hij
      rw [Go.Sort.getElem!_set_same d j x hi]
      obtain ⟨hsz, _⟩ := Array.getElem?_eq_some_iff.1 hc
      rw [Array.getElem?_setIfInBounds, if_pos rfl, if_pos hsz]; rfl
    · rw [Go.Sort.getElem!_set_other d i j x hij, Array.getElem?_setIfInBounds, if_neg (by omega)]
      exact hc
  · rw [hs, Go.Sort.mapBlock, Array.getElem?_modify]
    simp [h2, Go.Sort.onCells]
theorem Rw.swp (h : Rw w0 w b off d) {i j : Nat} (hi : i < d.size) (hj : j < d.size) {x y : Int} (hx : d[j]! = x) (hy : d[i]! = y) :
    Rw w0 ((w.setCell ⟨b, off + i, none⟩ (.int .u64 x)).setCell ⟨b, off + j, none⟩ (.int .u64 y)) b off (Go.Sort.swp d i j) := by
  subst hx; subst hy
  exact (h.set hi _).set (by simpa using hj) _
end
theorem swp_size (d : Array Int) (i j : Nat) : (Go.Sort.swp d i j).size = d.size := by simp [Go.Sort.swp]
theorem snan_any (w : World) (x : Int) : Calls Try.prog 82 #[.int .u64 x] w fun e w' => e = .returned (.bool false) ∧ w' = w := by
  go_enter Try.func82, Try.ntmps82
  go_wp2
  go_ret
  exact ⟨by simp, rfl⟩
theorem sless_any (w : World) (x y : Int) : Calls Try.prog 72 #[.int .u64 x, .int .u64 y] w fun e w' => e = .returned (.bool (Go.Sort.ltInt x y)) ∧ w' = w := by
  go_enter Try.func72, Try.ntmps72
  go_wp2_with (go_at_call 82; refine (snan_any _ _).mono ?_; rintro e w' ⟨rfl, rfl⟩)
  go_ret
  exact ⟨rfl, rfl⟩
end Go.Proofs.Ytpabbhhaagfoeaa
end

section
/- slices.Sort of numbers: insertionSortOrdered. -/
namespace Go.Proofs.Ytpabbhhaagfoeaa
set_option maxRecDepth 100000
open Go.RowKit
set_option linter.unusedVariables false
set_option linter.unusedSimpArgs false
open Go.Sort (insInner insOuter ltInt)
theorem insInner_stop {a j : Nat} {d : Array Int} (h : j ≤ a) : insInner ltInt a j d = d := by
  cases j with
  | zero => rfl
  | succ j => simp [insInner, show ¬ j + 1 > a by omega]
theorem insInner_yes {a j : Nat} {d : Array Int} (h : a < j + 1) (hl : ltInt d[j + 1]! d[j]! = true) : insInner ltInt a (j + 1) d = insInner ltInt a j (Go.Sort.swp d (j + 1) j) := by
  rw [insInner, if_pos (by simp [h, hl])]
theorem insInner_no {a j : Nat} {d : Array Int} (hl : ltInt d[j + 1]! d[j]! = false) : insInner ltInt a (j + 1) d = d := by
  rw [insInner, if_neg (by simp [hl])]
theorem insOuter_on {a b i : Nat} {d : Array Int} (h : i < b) : insOuter ltInt a b i d = insOuter ltInt a b (i + 1) (insInner ltInt a i d) := by
  rw [insOuter, if_pos h]
theorem insOuter_end {a b i : Nat} {d : Array Int} (h : b ≤ i) : insOuter ltInt a b i d = d := by
  rw [insOuter, if_neg (by omega)]
theorem sins_any (w : World) {blk off cap a b : Nat} {d : Array Int} (hR : Rw w w blk off d) (hab : a ≤ b) (hb : b ≤ d.size) (hsz : d.size < 4611686018427387904) :
    Calls Try.prog 66 #[.slice (some ⟨blk, off, none⟩) d.size cap, .int .i64 (a : Int), .int .i64 (b : Int)] w fun e w' => e = .returned (.tuple #[]) ∧ ∃ d', d' = Go.Sort.insertionSort ltInt d a b ∧ Rw w w' blk off d' := by
  obtain ⟨n, hn⟩ : ∃ n, d.size = n := ⟨_, rfl⟩
  have HR := Lib.hid hR
  have HN := Lib.hid hn
  rw [hn] at hb hsz ⊢
  clear hR hn
  go_enter Try.func66, Try.ntmps66
  go_wp2
  go_loopw [6] (fun ui wr => ∃ (i : Nat) (dk : Array Int), ui = .int .i64 (i : Int) ∧ a < i ∧ i ≤ b + 1 ∧ Hid (dk.size = n) ∧ Hid (Rw w wr blk off dk) ∧ Hid (insOuter ltInt a b i dk = insOuter ltInt a b (a + 1) d)) (fun ui _ => b + 1 - (intOf ui).toNat)
  case atStart =>
    exact ⟨a + 1, d, by go_num, by omega, by omega, HN, HR, Lib.hid rfl⟩
  case round =>
    obtain ⟨i, dk, rfl, hai, hib, HS, HK, HO⟩ := hrel
    go_wp2
    · have hlt : i < b := by assumption
      obtain ⟨wo, hwo⟩ : ∃ x, x = wr := ⟨_, rfl⟩
      subst hwo
      go_loopw [7] (fun uj wr2 => ∃ (j : Nat) (dj : Array Int), uj = .int .i64 (j : Int) ∧ j ≤ i ∧ Hid (dj.size = n) ∧ Hid (Rw w wr2 blk off dj) ∧ Hid (insInner ltInt a j dj = insInner ltInt a i dk)) (fun uj _ => (intOf uj).toNat)
      case atStart => exact ⟨i, dk, rfl, Nat.le_refl _, HS, HK, Lib.hid rfl⟩
      case round =>
        obtain ⟨j, dj, rfl, hji, HSJ, HJ, HI⟩ := hrel
        by_cases hja : a < j
        · obtain ⟨g, rfl⟩ : ∃ g, j = g + 1 := ⟨j - 1, by omega⟩
          obtain ⟨x, hx⟩ : ∃ x, dj[g + 1]! = x := ⟨_, rfl⟩
          obtain ⟨y, hy⟩ : ∃ y, dj[g]! = y := ⟨_, rfl⟩
          have hd : decide ((a : Int) < (g : Int) + 1) = true := by simp; omega
          have HX := Lib.hid hx
          have HY := Lib.hid hy
          have h1 := HJ.out.cell (j := g + 1) (by rw [HSJ.out]; omega)
          have h2 := HJ.out.cell (j := g) (by rw [HSJ.out]; omega)
          have f1 := HJ.out.froz (j := g + 1) (by rw [HSJ.out]; omega)
          have f2 := HJ.out.froz (j := g) (by rw [HSJ.out]; omega)
          rw [hx] at h1
          rw [hy] at h2
          clear hx hy
          go_wp2
          go_quiet ((go_at_call 72; exact Calls.quiet_of_same (sless_any _ _ _)))
          cases hl : ltInt x y with
          | true =>
            go_wp2
            go_region
            go_wp2
            refine ⟨⟨g, Go.Sort.swp dj (g + 1) g, rfl, by omega, Lib.hid (by rw [swp_size]; exact HSJ.out), Lib.hid ((HJ.out.drewN _).swp (by rw [HSJ.out]; omega) (by rw [HSJ.out]; omega) HY.out HX.out), Lib.hid ((insInner_yes hja (by rw [HX.out, HY.out]; exact hl)).symm.trans HI.out)⟩, by simp [intOf]⟩
          | false =>
            go_wp2
            refine ⟨⟨i + 1, dj, by go_num, by omega, by omega, HSJ, Lib.hid (HJ.out.drewN _), Lib.hid ?_⟩, by simp [intOf]; omega⟩
            have h3 := HI.out
            rw [insInner_no (by rw [HX.out, HY.out]; exact hl)] at h3
            rw [h3, ← insOuter_on hlt]
            exact HO.out
        · have hd : decide ((a : Int) < (j : Int)) = false := by simp; omega
          go_wp2
          go_quiet (fail)
          go_wp2
          refine ⟨⟨i + 1, dj, by go_num, by omega, by omega, HSJ, Lib.hid (HJ.out.drewN _), Lib.hid ?_⟩, by simp [intOf]; omega⟩
          have h3 := HI.out
          rw [insInner_stop (by omega)] at h3
          rw [h3, ← insOuter_on hlt]
          exact HO.out
    · refine bodyPost_end (results_none rfl _ _ _) rfl ⟨rfl, dk, ?_, HK.out⟩
      have h3 := HO.out
      rw [insOuter_end (by omega)] at h3
      exact h3
end Go.Proofs.Ytpabbhhaagfoeaa
end

section
/- slices.Sort of numbers: siftDownOrdered (printed by wip/tools/gensrt/sift.py). -/
namespace Go.Proofs.Ytpabbhhaagfoeaa
set_option maxRecDepth 100000
open Go.RowKit
set_option linter.unusedVariables false
set_option linter.unusedSimpArgs false
open Go.Sort (siftDown ltInt swp)
theorem sift_end {hi first r : Nat} {d : Array Int} (h : hi ≤ 2 * r + 1) : siftDown ltInt hi first r d = d := by
  rw [siftDown, dif_pos h]
theorem sift_right {hi first r c c1 : Nat} {d : Array Int} (hc : c = 2 * r + 1) (hc1 : c1 = c + 1) (h : c1 < hi) (hl : ltInt d[first + c]! d[first + c1]! = true) :
    siftDown ltInt hi first r d = if ltInt d[first + r]! d[first + c1]! = true then siftDown ltInt hi first c1 (swp d (first + r) (first + c1)) else d := by
  subst hc1; subst hc
  rw [siftDown, dif_neg (by omega), if_pos (by simp only [Bool.and_eq_true, decide_eq_true_eq]; exact ⟨h, hl⟩)]
  cases hk : ltInt d[first + r]! d[first + (2 * r + 1 + 1)]! with
  | true => simp [hk, h]
  | false => simp [hk]
theorem sift_left {hi first r c : Nat} {d : Array Int} (hc : c = 2 * r + 1) (h : c < hi) (hl : c + 1 < hi → ltInt d[first + c]! d[first + (c + 1)]! = false) :
    siftDown ltInt hi first r d = if ltInt d[first + r]! d[first + c]! = true then siftDown ltInt hi first c (swp d (first + r) (first + c)) else d := by
  subst hc
  rw [siftDown, dif_neg (by omega), if_neg (by simp only [Bool.and_eq_true, decide_eq_true_eq]; rintro ⟨h1, h2⟩; have := hl h1; simp only [Nat.add_assoc] at this h2; rw [this] at h2; cases h2)]
  cases hk : ltInt d[first + r]! d[first + (2 * r + 1)]! with
  | true => simp
  | false => simp
theorem ssift_any (w : World) {blk off cap lo hi first n : Nat} {d : Array Int} (hR : Rw w w blk off d) (hn : d.size = n) (hlo : lo ≤ hi) (hb : first + hi ≤ n) (hsz : n < 4611686018427387904) :
    Calls Try.prog 77 #[.slice (some ⟨blk, off, none⟩) n cap, .int .i64 (lo : Int), .int .i64 (hi : Int), .int .i64 (first : Int)] w fun e w' => e = .returned (.tuple #[]) ∧ ∃ d', d' = siftDown ltInt hi first lo d ∧ d'.size = n ∧ Rw w w' blk off d' := by
  have HR := Lib.hid hR
  have HN := Lib.hid hn
  clear hR hn
  go_enter Try.func77, Try.ntmps77
  go_wp2
  go_loopw [8] (fun ui wr => ∃ (r : Nat) (dk : Array Int), ui = .int .i64 (r : Int) ∧ r ≤ hi ∧ Hid (dk.size = n) ∧ Hid (Rw w wr blk off dk) ∧ Hid (siftDown ltInt hi first r dk = siftDown ltInt hi first lo d)) (fun ui _ => hi - (intOf ui).toNat)
  case atStart =>
    exact ⟨lo, d, rfl, hlo, HN, HR, Lib.hid rfl⟩
  case round =>
    obtain ⟨r, dk, rfl, hr, HS, HK, HO⟩ := hrel
    obtain ⟨c, hc⟩ : ∃ c, c = 2 * r + 1 := ⟨_, rfl⟩
    have hcI : (2 : Int) * (r : Int) + 1 = (c : Int) := by omega
    have HC := Lib.hid hc
    have hrc : r < c := by omega
    clear hc
    by_cases hch : hi ≤ c
    · go_wp2
      refine bodyPost_end (results_none rfl _ _ _) rfl ⟨rfl, dk, ?_, HS.out, HK.out⟩
      rw [← HO.out, sift_end (by have := HC.out; omega)]
    · have hcc : c < hi := by omega
      obtain ⟨x, hx⟩ : ∃ x, dk[first + c]! = x := ⟨_, rfl⟩
      obtain ⟨z, hz⟩ : ∃ z, dk[first + r]! = z := ⟨_, rfl⟩
      have HX := Lib.hid hx
      have HZ := Lib.hid hz
      have h1 := HK.out.cell (j := first + c) (by rw [HS.out]; omega)
      have h0 := HK.out.cell (j := first + r) (by rw [HS.out]; omega)
      have f1 := HK.out.froz (j := first + c) (by rw [HS.out]; omega)
      have f0 := HK.out.froz (j := first + r) (by rw [HS.out]; omega)
      rw [hx] at h1
      rw [hz] at h0
      clear hx hz
      have b0 : (first : Int) + (r : Int) < (n : Int) := by omega
      have b1 : (first : Int) + (c : Int) < (n : Int) := by omega
      have w0 : IntKind.i64.wrap ((first : Int) + (r : Int)) = (first : Int) + (r : Int) := by rw [IntKind.wrap_i64]; omega
      by_cases hg : c + 1 < hi
      · have hd : decide ((c : Int) + 1 < (hi : Int)) = true := by simp; omega
        obtain ⟨c1, hc1⟩ : ∃ c1, c1 = c + 1 := ⟨_, rfl⟩
        have hc1I : (c : Int) + 1 = (c1 : Int) := by omega
        have hc1N : c + 1 = c1 := by omega
        have HC1 := Lib.hid hc1
        have hd1 : c1 < hi := by omega
        obtain ⟨y, hy⟩ : ∃ y, dk[first + c1]! = y := ⟨_, rfl⟩
        have HY := Lib.hid hy
        have h2 := HK.out.cell (j := first + c1) (by rw [HS.out]; omega)
        have f2 := HK.out.froz (j := first + c1) (by rw [HS.out]; omega)
        rw [hy] at h2
        clear hy hc1
        have hidx : first + c + 1 = first + c1 := by omega
        go_wp2
        go_quiet ((go_at_call 72; exact (sless_any _ _ _).mono fun _ _ h => ⟨h.1, _, h.2⟩))
        cases hl : ltInt x y with
        | true =>
          have HE : Hid (siftDown ltInt hi first r dk = if ltInt dk[first + r]! dk[first + c1]! = true then siftDown ltInt hi first c1 (swp dk (first + r) (first + c1)) else dk) := Lib.hid (sift_right HC.out HC1.out hd1 (by rw [HX.out, HY.out]; exact hl))
          go_wp2
          go_quiet ((go_at_call 72; exact (sless_any _ _ _).mono fun _ _ h => ⟨h.1, _, h.2⟩))
          cases hl2 : ltInt z y with
          | true =>
            go_wp2
            go_region
            go_wp2
            refine ⟨⟨c1, swp dk (first + r) (first + c1), rfl, by omega, Lib.hid (by rw [swp_size]; exact HS.out), Lib.hid ((HK.out.drewN _).swp (by rw [HS.out]; omega) (by rw [HS.out]; omega) HY.out HZ.out), Lib.hid ?_⟩, by simp [intOf]; omega⟩
            have h3 := HE.out
            rw [if_pos (by rw [HZ.out, HY.out]; exact hl2), HO.out] at h3
            exact h3.symm
          | false =>
            go_wp2
            refine bodyPost_ret (results_none rfl _ _ _) rfl ⟨rfl, dk, ?_, HS.out, (HK.out.drewN _).drewN _⟩
            have h3 := HE.out
            rw [if_neg (by rw [HZ.out, HY.out, hl2]; decide), HO.out] at h3
            exact h3.symm
        | false =>
          have HE : Hid (siftDown ltInt hi first r dk = if ltInt dk[first + r]! dk[first + c]! = true then siftDown ltInt hi first c (swp dk (first + r) (first + c)) else dk) := Lib.hid (sift_left HC.out hcc (fun _ => by rw [HX.out, ← HC1.out, HY.out]; exact hl))
          go_wp2
          go_quiet ((go_at_call 72; exact (sless_any _ _ _).mono fun _ _ h => ⟨h.1, _, h.2⟩))
          cases hl2 : ltInt z x with
          | true =>
            go_wp2
            go_region
            go_wp2
            refine ⟨⟨c, swp dk (first + r) (first + c), rfl, by omega, Lib.hid (by rw [swp_size]; exact HS.out), Lib.hid ((HK.out.drewN _).swp (by rw [HS.out]; omega) (by rw [HS.out]; omega) HX.out HZ.out), Lib.hid ?_⟩, by simp [intOf]; omega⟩
            have h3 := HE.out
            rw [if_pos (by rw [HZ.out, HX.out]; exact hl2), HO.out] at h3
            exact h3.symm
          | false =>
            go_wp2
            refine bodyPost_ret (results_none rfl _ _ _) rfl ⟨rfl, dk, ?_, HS.out, (HK.out.drewN _).drewN _⟩
            have h3 := HE.out
            rw [if_neg (by rw [HZ.out, HX.out, hl2]; decide), HO.out] at h3
            exact h3.symm
      · have hd : decide ((c : Int) + 1 < (hi : Int)) = false := by simp; omega
        have HE : Hid (siftDown ltInt hi first r dk = if ltInt dk[first + r]! dk[first + c]! = true then siftDown ltInt hi first c (swp dk (first + r) (first + c)) else dk) := Lib.hid (sift_left HC.out hcc (fun h => absurd h hg))
        go_wp2
        go_quiet (fail)
        go_wp2
        go_quiet ((go_at_call 72; exact (sless_any _ _ _).mono fun _ _ h => ⟨h.1, _, h.2⟩))
        cases hl2 : ltInt z x with
        | true =>
          go_wp2
          go_region
          go_wp2
          refine ⟨⟨c, swp dk (first + r) (first + c), rfl, by omega, Lib.hid (by rw [swp_size]; exact HS.out), Lib.hid ((HK.out.drewN _).swp (by rw [HS.out]; omega) (by rw [HS.out]; omega) HX.out HZ.out), Lib.hid ?_⟩, by simp [intOf]; omega⟩
          have h3 := HE.out
          rw [if_pos (by rw [HZ.out, HX.out]; exact hl2), HO.out] at h3
          exact h3.symm
        | false =>
          go_wp2
          refine bodyPost_ret (results_none rfl _ _ _) rfl ⟨rfl, dk, ?_, HS.out, (HK.out.drewN _).drewN _⟩
          have h3 := HE.out
          rw [if_neg (by rw [HZ.out, HX.out, hl2]; decide), HO.out] at h3
          exact h3.symm
end Go.Proofs.Ytpabbhhaagfoeaa
end

section
/- slices.Sort of numbers: heapSortOrdered, reverseRangeOrdered. -/
namespace Go.Proofs.Ytpabbhhaagfoeaa
set_option maxRecDepth 100000
open Go.RowKit
set_option linter.unusedVariables false
set_option linter.unusedSimpArgs false
open Go.Sort (siftDown heapBuild heapPop reverseLoop ltInt swp)
theorem heapPop_step (first k : Nat) (d : Array Int) : heapPop ltInt first (k + 1) d = heapPop ltInt first k (siftDown ltInt k first 0 (swp d first (first + k))) := rfl
theorem heapBuild_step (hi first k : Nat) (d : Array Int) : heapBuild ltInt hi first (k + 1) d = heapBuild ltInt hi first k (siftDown ltInt hi first k d) := rfl
theorem sheap_any (w : World) {blk off cap a b n m : Nat} {d : Array Int} (hR : Rw w w blk off d) (hn : d.size = n) (hm : b = a + m) (hb : b ≤ n) (hsz : n < 4611686018427387904) :
    Calls Try.prog 67 #[.slice (some ⟨blk, off, none⟩) n cap, .int .i64 (a : Int), .int .i64 (b : Int)] w fun e w' => e = .returned (.tuple #[]) ∧ ∃ d', d' = Go.Sort.heapSort ltInt d a b ∧ d'.size = n ∧ Rw w w' blk off d' := by
  have HR := Lib.hid hR
  have HN := Lib.hid hn
  obtain ⟨h, hh⟩ : ∃ h, h = (m - 1) / 2 + 1 := ⟨_, rfl⟩
  have hbI : (b : Int) - (a : Int) = (m : Int) := by omega
  have hhI : ((m : Int) - 1).tdiv 2 = (h : Int) - 1 := by
    rcases Nat.eq_zero_or_pos m with rfl | hp
    · subst hh; decide
    · rw [Int.tdiv_eq_ediv_of_nonneg (by omega)]; omega
  have hhm : h ≤ m + 1 := by omega
  have hh1 : m ≠ 0 → h ≤ m := by intro _; omega
  have HH := Lib.hid hh
  have HM := Lib.hid hm
  clear hR hn hh hm
  go_enter Try.func67, Try.ntmps67
  go_wp2
  go_loopw [9] (fun ui wr => ∃ (k : Nat) (dk : Array Int), ui = .int .i64 ((k : Int) - 1) ∧ k ≤ h ∧ Hid (dk.size = n) ∧ Hid (Rw w wr blk off dk) ∧ Hid (heapPop ltInt a m (heapBuild ltInt m a k dk) = Go.Sort.heapSort ltInt d a b)) (fun ui _ => (intOf ui + 1).toNat)
  case atStart =>
    exact ⟨h, d, by go_num, Nat.le_refl _, HN, HR, Lib.hid (by unfold Go.Sort.heapSort; rw [HM.out, HH.out, Nat.add_sub_cancel_left])⟩
  case round =>
    obtain ⟨k, dk, rfl, hk, HS, HK, HO⟩ := hrel
    cases k with
    | succ g =>
      rw [show (((g + 1 : Nat) : Int) - 1) = (g : Int) by omega]
      go_wp2_with (go_at_call 77; refine (ssift_any _ (lo := g) (hi := m) (first := a) HK.out.self HS.out (by omega) (by have := HM.out; omega) hsz).mono ?_; rintro e w1 ⟨rfl, d1, e1, s1, r1⟩; have R1 := Lib.hid (HK.out.trans r1); have S1 := Lib.hid s1; have E1 := Lib.hid e1; clear e1 s1 r1)
      refine ⟨⟨g, d1, by go_num, by omega, S1, R1, Lib.hid ?_⟩, by simp [intOf]; try omega⟩
      rw [← HO.out, heapBuild_step, E1.out]
    | zero =>
      rw [show (((0 : Nat) : Int) - 1) = (-1 : Int) by omega]
      obtain ⟨wo, hwo⟩ : ∃ x, x = wr := ⟨_, rfl⟩
      subst hwo
      go_wp2
      go_loopw [10] (fun ui wr => ∃ (k : Nat) (dk : Array Int), ui = .int .i64 ((k : Int) - 1) ∧ k ≤ m ∧ Hid (dk.size = n) ∧ Hid (Rw w wr blk off dk) ∧ Hid (heapPop ltInt a k dk = Go.Sort.heapSort ltInt d a b)) (fun ui _ => (intOf ui + 1).toNat)
      case atStart =>
        exact ⟨m, dk, by go_num, Nat.le_refl _, HS, HK, HO⟩
      case round =>
        obtain ⟨k, dj, rfl, hkm, HSJ, HJ, HP⟩ := hrel
        cases k with
        | zero =>
          rw [show (((0 : Nat) : Int) - 1) = (-1 : Int) by omega]
          go_wp2
          exact bodyPost_end (results_none rfl _ _ _) rfl ⟨rfl, dj, HP.out, HSJ.out, HJ.out⟩
        | succ g =>
          rw [show (((g + 1 : Nat) : Int) - 1) = (g : Int) by omega]
          have hgn : a + g < n := by have := HM.out; omega
          obtain ⟨x, hx⟩ : ∃ x, dj[a]! = x := ⟨_, rfl⟩
          obtain ⟨y, hy⟩ : ∃ y, dj[a + g]! = y := ⟨_, rfl⟩
          have HX := Lib.hid hx
          have HY := Lib.hid hy
          have h1 := HJ.out.cell (j := a) (by rw [HSJ.out]; omega)
          have h2 := HJ.out.cell (j := a + g) (by rw [HSJ.out]; omega)
          have f1 := HJ.out.froz (j := a) (by rw [HSJ.out]; omega)
          have f2 := HJ.out.froz (j := a + g) (by rw [HSJ.out]; omega)
          rw [hx] at h1
          rw [hy] at h2
          clear hx hy
          have b0 : (a : Int) + (g : Int) < (n : Int) := by omega
          have w0 : IntKind.i64.wrap ((a : Int) + (g : Int)) = (a : Int) + (g : Int) := by rw [IntKind.wrap_i64]; omega
          rcases Nat.eq_zero_or_pos g with hg0 | hg0
          · subst hg0
            have HXY : Hid (dj[a]! = x) := HX
            clear h2 f2 b0 w0
            rw [show (((0 : Nat) : Int)) = (0 : Int) from rfl]
            have R2 := Lib.hid ((HJ.out.swp (i := a) (j := a) (by rw [HSJ.out]; omega) (by rw [HSJ.out]; omega) HX.out HX.out).drew)
            have E2 : Hid (heapPop ltInt a 0 (siftDown ltInt 0 a 0 (swp dj a a)) = Go.Sort.heapSort ltInt d a b) := Lib.hid (by have := HP.out; rw [heapPop_step] at this; exact this)
            clear HY
            go_wp2
            go_region
            go_wp2_with (go_at_call 77; refine (ssift_any _ (lo := 0) (hi := 0) (first := a) R2.out.self (by rw [swp_size]; exact HSJ.out) (Nat.zero_le _) (by omega) hsz).mono ?_; rintro e w1 ⟨rfl, d1, e1, s1, r1⟩; have R1 := Lib.hid (R2.out.trans r1); have S1 := Lib.hid s1; have E1 := Lib.hid e1; clear e1 s1 r1)
            refine ⟨⟨0, d1, by go_num, by omega, S1, R1, Lib.hid ?_⟩, by simp [intOf]; try omega⟩
            rw [E1.out]
            exact E2.out
          · have R2 := Lib.hid ((HJ.out.swp (i := a) (j := a + g) (by rw [HSJ.out]; omega) (by rw [HSJ.out]; omega) HY.out HX.out).drew)
            have E2 : Hid (heapPop ltInt a g (siftDown ltInt g a 0 (swp dj a (a + g))) = Go.Sort.heapSort ltInt d a b) := Lib.hid (by have := HP.out; rw [heapPop_step] at this; exact this)
            go_wp2
            go_region
            go_wp2_with (go_at_call 77; refine (ssift_any _ (lo := 0) (hi := g) (first := a) R2.out.self (by rw [swp_size]; exact HSJ.out) (Nat.zero_le _) (by omega) hsz).mono ?_; rintro e w1 ⟨rfl, d1, e1, s1, r1⟩; have R1 := Lib.hid (R2.out.trans r1); have S1 := Lib.hid s1; have E1 := Lib.hid e1; clear e1 s1 r1)
            refine ⟨⟨g, d1, by go_num, by omega, S1, R1, Lib.hid ?_⟩, by simp [intOf]; try omega⟩
            rw [E1.out]
            exact E2.out
theorem revLoop_on {i j : Nat} {d : Array Int} (h : i < j) : reverseLoop i j d = reverseLoop (i + 1) (j - 1) (swp d i j) := by
  rw [reverseLoop, if_pos h]
theorem revLoop_end {i j : Nat} {d : Array Int} (h : j ≤ i) : reverseLoop i j d = d := by
  rw [reverseLoop, if_neg (by omega)]
theorem srev_any (w : World) {blk off cap a b n : Nat} {d : Array Int} (hR : Rw w w blk off d) (hn : d.size = n) (hab : a < b) (hb : b ≤ n) (hsz : n < 4611686018427387904) :
    Calls Try.prog 70 #[.slice (some ⟨blk, off, none⟩) n cap, .int .i64 (a : Int), .int .i64 (b : Int)] w fun e w' => e = .returned (.tuple #[]) ∧ ∃ d', d' = Go.Sort.reverseRange d a b ∧ d'.size = n ∧ Rw w w' blk off d' := by
  have HR := Lib.hid hR
  have HN := Lib.hid hn
  obtain ⟨b1, hb1⟩ : ∃ b1, b = b1 + 1 := ⟨b - 1, by omega⟩
  subst hb1
  clear hR hn
  go_enter Try.func70, Try.ntmps70
  go_wp2
  go_loopw [6, 7] (fun ui uj wr => ∃ (i j : Nat) (dk : Array Int), ui = .int .i64 (i : Int) ∧ uj = .int .i64 (j : Int) ∧ i ≤ j + 1 ∧ j < n ∧ Hid (dk.size = n) ∧ Hid (Rw w wr blk off dk) ∧ Hid (reverseLoop i j dk = reverseLoop a b1 d)) (fun _ uj _ => (intOf uj).toNat)
  case atStart =>
    exact ⟨a, b1, d, rfl, by go_num, by omega, by omega, HN, HR, Lib.hid rfl⟩
  case round =>
    obtain ⟨i, j, dk, rfl, rfl, hij, hjn, HS, HK, HO⟩ := hrel
    by_cases hlt : i < j
    · obtain ⟨g, rfl⟩ : ∃ g, j = g + 1 := ⟨j - 1, by omega⟩
      obtain ⟨x, hx⟩ : ∃ x, dk[i]! = x := ⟨_, rfl⟩
      obtain ⟨y, hy⟩ : ∃ y, dk[g + 1]! = y := ⟨_, rfl⟩
      have HX := Lib.hid hx
      have HY := Lib.hid hy
      have h1 := HK.out.cell (j := i) (by rw [HS.out]; omega)
      have h2 := HK.out.cell (j := g + 1) (by rw [HS.out]; omega)
      have f1 := HK.out.froz (j := i) (by rw [HS.out]; omega)
      have f2 := HK.out.froz (j := g + 1) (by rw [HS.out]; omega)
      rw [hx] at h1
      rw [hy] at h2
      clear hx hy
      go_wp2
      go_region
      go_wp2
      refine ⟨⟨i + 1, g, swp dk i (g + 1), by go_num, by go_num, by omega, by omega, Lib.hid (by rw [swp_size]; exact HS.out), Lib.hid ((HK.out.drewN _).swp (by rw [HS.out]; omega) (by rw [HS.out]; omega) HY.out HX.out), Lib.hid ?_⟩, by simp [intOf]; try omega⟩
      exact (revLoop_on hlt).symm.trans HO.out
    · go_wp2
      refine bodyPost_end (results_none rfl _ _ _) rfl ⟨rfl, dk, ?_, HS.out, HK.out⟩
      have h3 := HO.out
      rw [revLoop_end (by omega)] at h3
      exact h3
end Go.Proofs.Ytpabbhhaagfoeaa
end

section
/- slices.Sort of numbers: order2Ordered, medianOrdered, medianAdjacentOrdered. -/
namespace Go.Proofs.Ytpabbhhaagfoeaa
set_option maxRecDepth 100000
open Go.RowKit
set_option linter.unusedVariables false
set_option linter.unusedSimpArgs false
open Go.Sort (order2 median medianAdjacent ltInt)
/-- The count of swaps, in a block of its own. -/
structure Bx (w : World) (p s : Nat) : Prop where
  lt : p < w.heap.size
  cell : w.cell? ⟨p, 0, none⟩ = some (.int .i64 (s : Int))
  froz : w.frozen? ⟨p, 0, none⟩ = false
section
variable {w w' : World} {p s b o : Nat} {d : Array Int}
theorem Bx.nil (h : Bx w p s) (hm : Mods Nil w w') : Bx w' p s := by
  have hb := hm.block p h.lt (fun h => h)
  refine ⟨Nat.lt_of_lt_of_le h.lt hm.size, ?_, ?_⟩
  · rw [World.cell?, hb]; exact h.cell
  · rw [World.frozen?, hb]; exact h.froz
theorem Bx.set (h : Bx w p s) (t : Nat) : Bx (w.setCell ⟨p, 0, none⟩ (.int .i64 (t : Int))) p t := by
  refine ⟨by simpa [World.setCell] using h.lt, ?_, ?_⟩
  · exact World.cell?_setCell_same' _ _ _ (by rw [h.cell]; rfl)
  · have := h.froz
    simpa using this
theorem Rw.off {n0 : Nat} (h : Rw w w b o d) (hm : Mods (fun i => i = n0) w w') (hne : n0 ≠ b) : Rw w' w' b o d := by
  have hb := hm.block b h.lt (fun e => hne e.symm)
  obtain ⟨c, c', e, fr, h1, h2, h3⟩ := h.same
  rw [h1] at h2
  refine ⟨Nat.lt_of_lt_of_le h.lt hm.size, fun j hj => ?_, Mods.refl _ _, c, c, e, fr, hb.trans h1, hb.trans h1, rfl⟩
  have := h.holds j hj
  refine ⟨?_, ?_⟩
  · rw [World.cell?, hb]; exact this.1
  · rw [World.frozen?, hb]; exact this.2
end
def OTold (w : World) (d : Array Int) (a b s p n : Nat) (e : Ending) (w' : World) : Prop :=
  ∃ a' b' s', order2 ltInt d a b s = (a', b', s') ∧ s' ≤ s + 1 ∧ (a' = a ∧ b' = b ∨ a' = b ∧ b' = a) ∧ e = .returned (.tuple #[.int .i64 (a' : Int), .int .i64 (b' : Int)]) ∧ Bx w' p s' ∧ Mods (fun i => i = p) w w'
theorem sord_any (w : World) {blk off cap a b n p s : Nat} {d : Array Int} (hR : Rw w w blk off d) (hn : d.size = n) (hp : Bx w p s) (hne : p ≠ blk) (ha : a < n) (hb : b < n) (hs : s < 1000) (hsz : n < 4611686018427387904) :
    Calls Try.prog 83 #[.slice (some ⟨blk, off, none⟩) n cap, .int .i64 (a : Int), .int .i64 (b : Int), .pointer (some ⟨p, 0, none⟩)] w (OTold w d a b s p n) := by
  obtain ⟨x, hx⟩ : ∃ x, d[a]! = x := ⟨_, rfl⟩
  obtain ⟨y, hy⟩ : ∃ y, d[b]! = y := ⟨_, rfl⟩
  have h1 := hR.cell (j := a) (by omega)
  have h2 := hR.cell (j := b) (by omega)
  have c1 := hp.cell
  have c2 := hp.froz
  rw [hx] at h1
  rw [hy] at h2
  have HX := Lib.hid hx
  have HY := Lib.hid hy
  have HP := Lib.hid hp
  clear hR hn hp hx hy
  go_enter Try.func83, Try.ntmps83
  go_wp2
  go_quiet ((go_at_call 72; exact (sless_any _ _ _).mono fun _ _ h => ⟨h.1, _, h.2⟩))
  cases hl : ltInt y x with
  | true =>
    go_wp2
    go_ret2
    refine ⟨b, a, s + 1, ?_, Nat.le_refl _, .inr ⟨rfl, rfl⟩, rfl, ?_, ?_⟩
    · simp [order2, HX.out, HY.out, hl]
    · exact (HP.out.nil ((Mods.refl Nil w).drewN nq)).set (s + 1)
    · exact ((Mods.refl (fun i => i = p) w).drewN nq).setCell (p := ⟨p, 0, none⟩) (fun _ => rfl) _
  | false =>
    go_wp2
    go_ret2
    refine ⟨a, b, s, ?_, by omega, .inl ⟨rfl, rfl⟩, rfl, HP.out.nil ((Mods.refl Nil w).drewN nq), (Mods.refl _ w).drewN nq⟩
    simp [order2, HX.out, HY.out, hl]
def MTold (w : World) (d : Array Int) (a b c s p n : Nat) (e : Ending) (w' : World) : Prop :=
  ∃ m s', median ltInt d a b c s = (m, s') ∧ s' ≤ s + 3 ∧ (m = a ∨ m = b ∨ m = c) ∧ e = .returned (.int .i64 (m : Int)) ∧ Bx w' p s' ∧ Mods (fun i => i = p) w w'
theorem smed_any (w : World) {blk off cap a b c n p s : Nat} {d : Array Int} (hR : Rw w w blk off d) (hn : d.size = n) (hp : Bx w p s) (hne : p ≠ blk) (ha : a < n) (hb : b < n) (hc : c < n) (hs : s < 900) (hsz : n < 4611686018427387904) :
    Calls Try.prog 81 #[.slice (some ⟨blk, off, none⟩) n cap, .int .i64 (a : Int), .int .i64 (b : Int), .int .i64 (c : Int), .pointer (some ⟨p, 0, none⟩)] w (MTold w d a b c s p n) := by
  have HR := Lib.hid hR
  have HN := Lib.hid hn
  have HP := Lib.hid hp
  clear hR hn hp
  go_enter Try.func81, Try.ntmps81
  go_wp2_with (first
    | (go_at_call 83; refine (sord_any _ HR.out HN.out HP.out hne ha hb (by omega) hsz).mono ?_; rintro e w1 ⟨a1, b1, s1, e1, t1, v1, rfl, p1, m1⟩; have ha1 : a1 < n := (by omega); have hb1 : b1 < n := (by omega); have R1 := Lib.hid (HR.out.off m1 hne); have P1 := Lib.hid p1; have E1 := Lib.hid e1; have M1 := Lib.hid m1; have V1 := Lib.hid v1; clear HR HP e1 p1 m1 v1)
    | (go_at_call 83; refine (sord_any _ R1.out HN.out P1.out hne hb1 hc (by omega) hsz).mono ?_; rintro e w2 ⟨b2, c2, s2, e2, t2, v2, rfl, p2, m2⟩; have hb2 : b2 < n := (by omega); have R2 := Lib.hid (R1.out.off m2 hne); have P2 := Lib.hid p2; have E2 := Lib.hid e2; have M2 := Lib.hid (M1.out.trans m2); have V2 := Lib.hid v2; clear R1 P1 e2 p2 m2 v2)
    | (go_at_call 83; refine (sord_any _ R2.out HN.out P2.out hne ha1 hb2 (by omega) hsz).mono ?_; rintro e w3 ⟨a3, b3, s3, e3, t3, v3, rfl, p3, m3⟩; have P3 := Lib.hid p3; have E3 := Lib.hid e3; have M3 := Lib.hid (M2.out.trans m3); have V3 := Lib.hid v3; clear R2 P2 e3 p3 m3 v3))
  go_ret
  refine ⟨b3, s3, ?_, by omega, ?_, rfl, P3.out, M3.out⟩
  · simp only [median, E1.out, E2.out, E3.out]
  · have := V1.out; have := V2.out; have := V3.out; omega
def ATold (w : World) (d : Array Int) (a s p n : Nat) (e : Ending) (w' : World) : Prop :=
  ∃ m s', medianAdjacent ltInt d a s = (m, s') ∧ s' ≤ s + 3 ∧ a ≤ m + 1 ∧ m ≤ a + 1 ∧ e = .returned (.int .i64 (m : Int)) ∧ Bx w' p s' ∧ Mods (fun i => i = p) w w'
theorem smedAdj_any (w : World) {blk off cap a n p s : Nat} {d : Array Int} (hR : Rw w w blk off d) (hn : d.size = n) (hp : Bx w p s) (hne : p ≠ blk) (h0 : 0 < a) (ha : a + 1 < n) (hs : s < 900) (hsz : n < 4611686018427387904) :
    Calls Try.prog 80 #[.slice (some ⟨blk, off, none⟩) n cap, .int .i64 (a : Int), .pointer (some ⟨p, 0, none⟩)] w (ATold w d a s p n) := by
  have HR := Lib.hid hR
  have HN := Lib.hid hn
  have HP := Lib.hid hp
  clear hR hn hp
  obtain ⟨g, rfl⟩ : ∃ g, a = g + 1 := ⟨a - 1, by omega⟩
  go_enter Try.func80, Try.ntmps80
  go_wp2_with (go_at_call 81; refine (smed_any _ (a := g) (b := g + 1) (c := g + 2) HR.out HN.out HP.out hne (by omega) (by omega) (by omega) hs hsz).mono ?_; rintro e w1 ⟨m, s1, e1, t1, v1, rfl, p1, m1⟩; have P1 := Lib.hid p1; have E1 := Lib.hid e1; have M1 := Lib.hid m1; have V1 := Lib.hid v1; clear HR HP e1 p1 m1 v1)
  go_ret
  exact ⟨m, s1, E1.out, by omega, by have := V1.out; omega, by have := V1.out; omega, rfl, P1.out, M1.out⟩
end Go.Proofs.Ytpabbhhaagfoeaa
end

section
/- slices.Sort of numbers: choosePivotOrdered. -/
namespace Go.Proofs.Ytpabbhhaagfoeaa
set_option maxRecDepth 100000
open Go.RowKit
set_option linter.unusedVariables false
set_option linter.unusedSimpArgs false
open Go.Sort (median medianAdjacent choosePivot ltInt Hint)
def hintN : Hint → Int
  | .unknown => 0
  | .increasing => 1
  | .decreasing => 2
def hintOf (s : Nat) : Hint := if s = 0 then .increasing else if s = 12 then .decreasing else .unknown
theorem hint0 {s : Nat} (h : ((s : Int) == 0) = true) : hintN (hintOf s) = 1 := by
  have : s = 0 := by have := eq_of_beq h; omega
  rw [hintOf, if_pos this]; rfl
theorem hint12 {s : Nat} (h : ((s : Int) == 0) = false) (h2 : ((s : Int) == 12) = true) : hintN (hintOf s) = 2 := by
  have : s = 12 := by have := eq_of_beq h2; omega
  subst this; rfl
theorem hintU {s : Nat} (h : ((s : Int) == 0) = false) (h2 : ((s : Int) == 12) = false) : hintN (hintOf s) = 0 := by
  have a : s ≠ 0 := by rintro rfl; simp at h
  have b : s ≠ 12 := by rintro rfl; simp at h2
  rw [hintOf, if_neg a, if_neg b]; rfl
theorem choose_big {d : Array Int} {a b q i j k : Nat} (hq : (b - a) / 4 = q) (hi : i = a + q) (hj : j = a + q * 2) (hk : k = a + q * 3) (h : 50 ≤ b - a) {x1 s1 x2 s2 x3 s3 x4 s4 : Nat}
    (e1 : medianAdjacent ltInt d i 0 = (x1, s1)) (e2 : medianAdjacent ltInt d j s1 = (x2, s2)) (e3 : medianAdjacent ltInt d k s2 = (x3, s3)) (e4 : median ltInt d x1 x2 x3 s3 = (x4, s4)) : choosePivot ltInt d a b = (x4, hintOf s4) := by
  subst hq; subst hi; subst hj; subst hk
  simp only [choosePivot, Nat.mul_one, if_pos (show b - a ≥ 8 by omega), if_pos (show b - a ≥ 50 by omega), e1, e2, e3, e4, hintOf]
theorem choose_mid {d : Array Int} {a b q i j k : Nat} (hq : (b - a) / 4 = q) (hi : i = a + q) (hj : j = a + q * 2) (hk : k = a + q * 3) (h : 8 ≤ b - a) (h2 : b - a < 50) {x4 s4 : Nat}
    (e4 : median ltInt d i j k 0 = (x4, s4)) : choosePivot ltInt d a b = (x4, hintOf s4) := by
  subst hq; subst hi; subst hj; subst hk
  simp only [choosePivot, Nat.mul_one, if_pos (show b - a ≥ 8 by omega), if_neg (show ¬ b - a ≥ 50 by omega), e4, hintOf]
def PTold (w : World) (d : Array Int) (a b : Nat) (e : Ending) (w' : World) : Prop :=
  ∃ p h, choosePivot ltInt d a b = (p, h) ∧ a < p ∧ p + 1 < b ∧ e = .returned (.tuple #[.int .i64 (p : Int), .int .i64 (hintN h)]) ∧ Mods Nil w w'
theorem Mods.fresh {w w1 w2 : World} (h : Mods Nil w w1) (k : Mods (fun i => i = w.heap.size) w1 w2) : Mods Nil w w2 :=
  h.trans2 k (fun i hi e => absurd e (by omega))
theorem spiv_any (w : World) {blk off cap a b n : Nat} {d : Array Int} (hR : Rw w w blk off d) (hn : d.size = n) (hab : a + 12 < b) (hb : b ≤ n) (hsz : n < 4611686018427387904) :
    Calls Try.prog 69 #[.slice (some ⟨blk, off, none⟩) n cap, .int .i64 (a : Int), .int .i64 (b : Int)] w (PTold w d a b) := by
  obtain ⟨m, hm⟩ : ∃ m, b - a = m := ⟨_, rfl⟩
  obtain ⟨q, hq⟩ : ∃ q, m / 4 = q := ⟨_, rfl⟩
  obtain ⟨i, hi⟩ : ∃ i, i = a + q := ⟨_, rfl⟩
  obtain ⟨j, hj⟩ : ∃ j, j = a + q * 2 := ⟨_, rfl⟩
  obtain ⟨k, hk⟩ : ∃ k, k = a + q * 3 := ⟨_, rfl⟩
  have hm12 : 12 < m := by omega
  have hqa : 4 * q ≤ m := by omega
  have hqb : m < 4 * q + 4 := by omega
  have hka : k = a + q * 3 := hk
  have hia : i = a + q := hi
  have hbm : b = a + m := by omega
  have HF : Hid (4 * q ≤ m ∧ m < 4 * q + 4 ∧ k = a + q * 3 ∧ i = a + q ∧ b = a + m) := Lib.hid ⟨hqa, hqb, hka, hia, hbm⟩
  clear hqa hqb hka hia hbm
  have hmI : (b : Int) - (a : Int) = (m : Int) := by omega
  have hqI : (m : Int).tdiv 4 = (q : Int) := by rw [Int.tdiv_eq_ediv_of_nonneg (by omega)]; omega
  have hiI : (a : Int) + (q : Int) = (i : Int) := by omega
  have hjI : (a : Int) + (q : Int) * 2 = (j : Int) := by omega
  have hkI : (a : Int) + (q : Int) * 3 = (k : Int) := by omega
  have hi0 : 0 < i := by omega
  have hij : i < j := by omega
  have hjk : j < k := by omega
  have hkn : k + 1 < n := by omega
  have hqm : q ≤ m := by omega
  have hmn : m ≤ n := by omega
  have hne : w.heap.size ≠ blk := by have := hR.lt; omega
  have HB0 : Hid (Bx (w.alloc (.cells #[.int .i64 0] 3)) w.heap.size 0) := Lib.hid ⟨(Blk.new w 3 #[.int .i64 0]).lt, (Blk.new w 3 #[.int .i64 0]).cell 0, (Blk.new w 3 #[.int .i64 0]).frozen 0⟩
  have HR0 : Hid (Rw (w.alloc (.cells #[.int .i64 0] 3)) (w.alloc (.cells #[.int .i64 0] 3)) blk off d) := Lib.hid (hR.alloc _).self
  have HM0 : Hid (Mods Nil w (w.alloc (.cells #[.int .i64 0] 3))) := Lib.hid ((Mods.refl Nil w).alloc _)
  clear hR
  have HQ : Hid ((b - a) / 4 = q) := Lib.hid (by rw [hm]; exact hq)
  have HI := Lib.hid hi
  have HJ := Lib.hid hj
  have HK := Lib.hid hk
  have HM := Lib.hid hm
  have HN := Lib.hid hn
  clear hn hq hi hj hk hm
  go_enter Try.func69, Try.ntmps69
  by_cases h50 : 50 ≤ m
  · go_wp2_with (first
      | (go_at_call 80; refine (smedAdj_any _ HR0.out HN.out HB0.out hne hi0 (by omega) (by omega) hsz).mono ?_; rintro e w1 ⟨x1, s1, e1, t1, v1, u1, rfl, p1, m1⟩; have hx1 : x1 < n := (by omega); have R1 := Lib.hid (HR0.out.off m1 hne); have P1 := Lib.hid p1; have E1 := Lib.hid e1; have M1 := Lib.hid (HM0.out.fresh m1); have W1 := Lib.hid v1; have W1' := Lib.hid u1; clear HR0 HB0 e1 p1 m1 v1 u1; have b1 := P1.out.cell)
      | (go_at_call 80; refine (smedAdj_any _ R1.out HN.out P1.out hne (by omega) (by omega) (by omega) hsz).mono ?_; rintro e w2 ⟨x2, s2, e2, t2, v2, u2, rfl, p2, m2⟩; have hx2 : x2 < n := (by omega); have R2 := Lib.hid (R1.out.off m2 hne); have P2 := Lib.hid p2; have E2 := Lib.hid e2; have M2 := Lib.hid (M1.out.fresh m2); have W2 := Lib.hid v2; have W2' := Lib.hid u2; clear R1 P1 b1 e2 p2 m2 v2 u2)
      | (go_at_call 80; refine (smedAdj_any _ R2.out HN.out P2.out hne (by omega) (by omega) (by omega) hsz).mono ?_; rintro e w3 ⟨x3, s3, e3, t3, v3, u3, rfl, p3, m3⟩; have hx3 : x3 < n := (by omega); have R3 := Lib.hid (R2.out.off m3 hne); have P3 := Lib.hid p3; have E3 := Lib.hid e3; have M3 := Lib.hid (M2.out.fresh m3); have W3 := Lib.hid v3; have W3' := Lib.hid u3; clear R2 P2 e3 p3 m3 v3 u3)
      | (go_at_call 81; refine (smed_any _ R3.out HN.out P3.out hne hx1 hx2 hx3 (by omega) hsz).mono ?_; rintro e w4 ⟨x4, s4, e4, t4, v4, rfl, p4, m4⟩; have P4 := Lib.hid p4; have E4 := Lib.hid e4; have M4 := Lib.hid (M3.out.fresh m4); have W4 := Lib.hid v4; clear R3 P3 e4 p4 m4 v4; have b4 := P4.out.cell; have HE := Lib.hid (choose_big HQ.out HI.out HJ.out HK.out (by rw [HM.out]; exact h50) E1.out E2.out E3.out E4.out)))
    all_goals go_ret2
    all_goals have hpb : a < x4 ∧ x4 + 1 < b := by have := W1.out; have := W1'.out; have := W2.out; have := W2'.out; have := W3.out; have := W3'.out; have := W4.out; have := HF.out; omega
    all_goals refine ⟨x4, hintOf s4, HE.out, hpb.1, hpb.2, ?_, M4.out⟩
    all_goals first
      | (rw [hint0 (by assumption)]; rfl)
      | (rw [hint12 (by assumption) (by assumption)]; rfl)
      | (rw [hintU (by assumption) (by assumption)]; rfl)
  · go_wp2_with (go_at_call 81; refine (smed_any _ HR0.out HN.out HB0.out hne (by omega) (by omega) (by omega) (by omega) hsz).mono ?_; rintro e w4 ⟨x4, s4, e4, t4, v4, rfl, p4, m4⟩; have P4 := Lib.hid p4; have E4 := Lib.hid e4; have M4 := Lib.hid (HM0.out.fresh m4); have W4 := Lib.hid v4; clear HR0 HB0 e4 p4 m4 v4; have b4 := P4.out.cell; have HE := Lib.hid (choose_mid HQ.out HI.out HJ.out HK.out (by rw [HM.out]; omega) (by rw [HM.out]; omega) E4.out))
    all_goals go_ret2
    all_goals have hpb : a < x4 ∧ x4 + 1 < b := by have := W4.out; have := HF.out; omega
    all_goals refine ⟨x4, hintOf s4, HE.out, hpb.1, hpb.2, ?_, M4.out⟩
    all_goals first
      | (rw [hint0 (by assumption)]; rfl)
      | (rw [hint12 (by assumption) (by assumption)]; rfl)
      | (rw [hintU (by assumption) (by assumption)]; rfl)
end Go.Proofs.Ytpabbhhaagfoeaa
end
