/- Texts laid as one: Frame1, Frame2, Frame3. -/
import Derived.Test.YtlheaicojmjdpaaDoorFrame0
import Derived.Test.YtlheaicojmjdpaaDoorNumsM
import Derived.Test.YtlheaicojmjdpaaDoorSumsM
import Derived.Test.YtlheaicojmjdpaaDoorBaseM
import Derived.Deep.RegionLaw

section
/- Package frame: how many bytes the number at the front has, and how many the body. -/
namespace Go.Proofs.YtlheaicojmjdpaaDoor
set_option maxRecDepth 100000
open Go.RowKit
set_option linter.unusedVariables false

set_option maxHeartbeats 3200000 in
theorem measure_any {w : World} {A : Option Addr} {c n : Nat} {xs : List UInt8} (hn : xs.length = n) (hs : Sl w A c (bts xs)) :
    Calls Tryd.prog 44 #[.slice A n c] w fun e w' => e = .returned (.tuple #[.int .i64 (if measE xs = 0 then (hdOf xs : Nat) else (0 : Nat) : Nat), .int .i64 (if measE xs = 0 then (szOf xs : Nat) else (0 : Nat) : Nat), .int .i64 (measE xs)]) ∧ Mods Nil w w' := by
  have hmx := hs.max
  have hle := hs.le
  unfold maxLen at hmx
  simp at hle
  obtain ⟨k, hk⟩ : ∃ k, min n 9 = k := ⟨_, rfl⟩
  have hk9 : k ≤ 9 := by omega
  have hkn : k ≤ n := by omega
  have htk : Sl w A c (bts (xs.take 9)) := by have := hs.take 9; rwa [bts_take] at this
  have hlk : (xs.take 9).length = k := by simp; omega
  obtain ⟨E, ys, V, hR⟩ : ∃ E ys V, readUint 0 (xs.take 9) = (E, ys, V) := ⟨_, _, _, rfl⟩
  have hN := newReader_any (w := w) hlk (by omega) htk
  have hU := fun (W : World) (g : Nat) (q : Option Nat) (h : IsReader W g q 0 (xs.take 9)) => uint_any (w := W) (g := g) (k := q) (err := 0) (xs := xs.take 9) (by omega) h
  simp only [hR] at hU
  have HN := Lib.hid hN
  have HU := Lib.hid hU
  have hmin : ∀ (ts : Array TypeId) (t : TypeId) (W : World), (Builtin.min_ ts t #[.int .i64 (n : Int), .int .i64 9]).run Tryd.prog W = .ok (.int .i64 (k : Int)) W := fun ts t W => by
    rw [run_min_int2]
    congr 2
    split <;> omega
  have hkc : (k : Int) ≤ (c : Int) := by omega
  have hk0 : (0 : Int) ≤ (k : Int) := by omega
  clear hN hU htk
  by_cases hE : E = 0
  · subst hE
    have hnum : numErr xs = 0 := by
      by_cases h : numErr (xs.take 9) = 0
      · rw [← numErr_take9]; exact h
      · rw [readUint_bad h] at hR; injection hR with h1 _; exact absurd h1 h
    have hV : V = szOf xs := by
      rw [readUint_ok (by rw [numErr_take9]; exact hnum)] at hR
      injection hR with _ h2
      injection h2 with _ h3
      rw [← h3, szOf_take9 hnum]
    subst hV
    obtain ⟨x, r, rfl, _, _⟩ := numErr_zero_inv hnum
    obtain ⟨b, off, rfl, _, hcell⟩ := hs.at_ (by simp)
    have h0 : w.cell? ⟨b, off, none⟩ = some (.int .u8 (x.toNat : Int)) := hcell 0 _ (by simp [bts])
    have hlt := World.block_lt_of_cell? w _ h0
    simp at hn
    have hpos : (0 : Int) < (n : Int) := by omega
    have hpos' : 0 < n := by omega
    have hhd : hdOf (x :: r) = 1 + x.toNat := rfl
    have hx := x.toNat_lt
    by_cases hbig : 65535 < szOf (x :: r)
    · have hm : measE (x :: r) = 13 := by unfold measE; rw [if_neg (by simp [hnum]), if_pos hbig]
      rw [hm]
      have HM := Lib.hid hm
      generalize szOf (x :: r) = V at hbig HU ⊢
      have hbI : (65535 : Int) < (V : Int) := by omega
      clear hR hnum hcell hs hm hlk hbig hhd
      go_enter Tryd.func44, Tryd.ntmps44
      go_wp2_with (first
        | (go_at_call 46; refine (HN.out).mono ?_; rintro e w1 ⟨g, q, rfl, hr, hg, hq, m1⟩; have HR := Lib.hid hr; have M1 := Lib.hid m1; clear hr m1 hq)
        | (go_at_call 58; refine (HU.out _ _ _ HR.out).mono ?_; rintro e w2 ⟨rfl, hr2, m2⟩; have HR2 := Lib.hid hr2; have M2 := Lib.hid (M1.out.nil_trans m2 (fun i hi => by subst hi; exact hg)); clear hr2 m2)
        | (go_at_call 59; refine (err_any HR2.out).mono ?_; rintro e w3 ⟨rfl, rfl⟩))
      exact bodyPost_ret (v := .tuple #[.int .i64 0, .int .i64 0, .int .i64 13]) (by simp [results, Tryd.results44, go_sem]) rfl ⟨rfl, M2.out⟩
    · have hm : measE (x :: r) = 0 := measE_of hnum (by omega)
      rw [hm, if_pos rfl, if_pos rfl, hhd]
      have hsz : szOf (x :: r) ≤ 65535 := by omega
      generalize szOf (x :: r) = V at hsz HU ⊢
      have hbI : (V : Int) ≤ 65535 := by omega
      clear hR hnum hcell hs hm hlk hbig hhd
      generalize x.toNat = y at h0 hx ⊢
      go_enter Tryd.func44, Tryd.ntmps44
      go_wp2_with (first
        | (go_at_call 46; refine (HN.out).mono ?_; rintro e w1 ⟨g, q, rfl, hr, hg, hq, m1⟩; have HR := Lib.hid hr; have M1 := Lib.hid m1; clear hr m1 hq)
        | (go_at_call 58; refine (HU.out _ _ _ HR.out).mono ?_; rintro e w2 ⟨rfl, hr2, m2⟩; have HR2 := Lib.hid hr2; have M2 := Lib.hid (M1.out.nil_trans m2 (fun i hi => by subst hi; exact hg)); have h02 : w2.cell? ⟨b, off, none⟩ = some (.int .u8 (y : Int)) := (World.cell?_of_block (M2.out.block b hlt (fun h => h))).trans h0; clear hr2 m2)
        | (go_at_call 59; refine (err_any HR2.out).mono ?_; rintro e w3 ⟨rfl, rfl⟩))
      exact bodyPost_ret (v := .tuple #[.int .i64 (1 + y), .int .i64 V, .int .i64 0]) (by simp [results, Tryd.results44, go_sem]) rfl ⟨by simp, M2.out⟩
  · have hnum : numErr xs = E ∧ E ≠ 0 := by
      by_cases h : numErr (xs.take 9) = 0
      · rw [readUint_ok h] at hR; injection hR with h1 _; exact absurd h1.symm hE
      · rw [readUint_bad h] at hR; injection hR with h1 _; rw [← h1, numErr_take9] at *; exact ⟨rfl, h⟩
    have hm : measE xs = E := by unfold measE; rw [if_pos (by rw [hnum.1]; exact hE), hnum.1]
    rw [hm, if_neg hE, if_neg hE]
    have hb2 : (E != 0) = true := by simp [hE]
    have hb3 : (E == 0) = false := by simp [hE]
    clear hR hnum hs hm hlk hE
    go_enter Tryd.func44, Tryd.ntmps44
    go_wp2_with (first
      | (go_at_call 46; refine (HN.out).mono ?_; rintro e w1 ⟨g, q, rfl, hr, hg, hq, m1⟩; have HR := Lib.hid hr; have M1 := Lib.hid m1; clear hr m1 hq)
      | (go_at_call 58; refine (HU.out _ _ _ HR.out).mono ?_; rintro e w2 ⟨rfl, hr2, m2⟩; have HR2 := Lib.hid hr2; have M2 := Lib.hid (M1.out.nil_trans m2 (fun i hi => by subst hi; exact hg)); clear hr2 m2)
      | (go_at_call 59; refine (err_any HR2.out).mono ?_; rintro e w3 ⟨rfl, rfl⟩))
    exact bodyPost_ret (v := .tuple #[.int .i64 0, .int .i64 0, .int .i64 E]) (by simp [results, Tryd.results44, go_sem]) rfl ⟨rfl, M2.out⟩
end Go.Proofs.YtlheaicojmjdpaaDoor
end

section
/- Package frame: the frame at the front of bytes. -/
namespace Go.Proofs.YtlheaicojmjdpaaDoor
set_option maxRecDepth 100000
open Go.RowKit
set_option linter.unusedVariables false

theorem measure_bad {w : World} {A : Option Addr} {c n : Nat} {xs : List UInt8} {E : Int} (hn : xs.length = n) (hE : measE xs = E) (h0 : E ≠ 0) (hs : Sl w A c (bts xs)) :
    Calls Tryd.prog 44 #[.slice A n c] w fun e w' => e = .returned (.tuple #[.int .i64 0, .int .i64 0, .int .i64 E]) ∧ Mods Nil w w' := by
  have := measure_any hn hs
  rw [hE, if_neg h0, if_neg h0] at this
  exact this
theorem measure_ok {w : World} {A : Option Addr} {c n H V : Nat} {xs : List UInt8} (hn : xs.length = n) (hE : measE xs = 0) (hH : hdOf xs = H) (hV : szOf xs = V) (hs : Sl w A c (bts xs)) :
    Calls Tryd.prog 44 #[.slice A n c] w fun e w' => e = .returned (.tuple #[.int .i64 (H : Int), .int .i64 (V : Int), .int .i64 0]) ∧ Mods Nil w w' := by
  have := measure_any hn hs
  rw [hE, if_pos rfl, if_pos rfl, hH, hV] at this
  exact this

set_option maxRecDepth 100000 in
theorem sizeByte (W : World) : (sizeOf (Tryd.prog.elem 22)).run Tryd.prog W = .ok 1 W := by kernel_rfl
theorem Mods.two (w : World) (g : Nat) (x y : Value) : Mods (· = g) w ((w.setCell ⟨g, 0, none⟩ x).setCell ⟨g, 1, none⟩ y) :=
  Mods.setCell (S := (· = g)) (Mods.setCell (S := (· = g)) (Mods.refl _ _) (fun _ => rfl) _) (fun _ => rfl) _
theorem own_typed {w : World} {base size n : Nat} {e : TypeId} {v : Value} {xs : List Value} (h : w.ownsRow base e size v n xs) : ∀ k, v.ownBlock = some k → ∃ cs, Blk w k e cs := by
  intro k hk
  rcases h.2 with ⟨rfl, _⟩ | ⟨g, cap, cur, rfl, _, hb, _⟩
  · simp [Value.ownBlock] at hk
  · simp [Value.ownBlock] at hk
    subst hk
    exact ⟨cur, hb⟩
def gotK (xs : List UInt8) : UInt8 := if getE xs = 0 then getK xs else 0
def gotB (xs : List UInt8) : List UInt8 := if getE xs = 0 then getB xs else []
def gotN (xs : List UInt8) : Nat := if getE xs = 0 then getN xs else 0
/-- What a call of Get leaves. -/
def Got (w : World) (xs : List UInt8) (e : Ending) (w' : World) : Prop :=
  ∃ A c, e = .returned (.tuple #[.agg #[.int .u8 ((gotK xs).toNat : Int), .slice A (gotB xs).length c], .int .i64 (gotN xs : Int), .int .i64 (getE xs)]) ∧
    Sl w' A c (bts (gotB xs)) ∧ (∀ a, A = some a → w.heap.size ≤ a.block ∧ ∃ cs, Blk w' a.block 5 cs) ∧ Mods Nil w w'
theorem Got.bad {w w' : World} {xs : List UInt8} {E : Int} (hE : getE xs = E) (h0 : E ≠ 0) (hm : Mods Nil w w') : Got w xs (.returned (.tuple #[.agg #[.int .u8 0, .slice none 0 0], .int .i64 0, .int .i64 E])) w' := by
  subst hE
  unfold Got gotK gotB gotN
  rw [if_neg h0, if_neg h0, if_neg h0]
  exact ⟨none, 0, rfl, Sl.none_ _, (fun a h => by cases h), hm⟩

set_option maxHeartbeats 3200000 in
theorem get_any {w : World} {A : Option Addr} {c n : Nat} {xs : List UInt8} (hn : xs.length = n) (hs : Sl w A c (bts xs)) :
    Calls Tryd.prog 22 #[.slice A n c] w (Got w xs) := by
  obtain ⟨i0, hi, hz0, hz1, hz2⟩ := info_parts infoByte
  have hmx := hs.max
  have hle := hs.le
  unfold maxLen at hmx
  simp at hle
  have HN := Lib.hid hn
  have HS := Lib.hid hs
  have hB0 := Blk.new w 50 #[.int .u8 0, .slice none 0 0]
  have HB0 := Lib.hid hB0
  clear hB0
  by_cases hE : measE xs = 0
  · obtain ⟨H, hH⟩ : ∃ H, hdOf xs = H := ⟨_, rfl⟩
    obtain ⟨V, hV⟩ : ∃ V, szOf xs = V := ⟨_, rfl⟩
    obtain ⟨hnum, hV6⟩ := measE_zero hE
    have hH9 := hdOf_le hnum
    rw [hH] at hH9
    rw [hV] at hV6
    have hgn : getN xs = H + V + 5 := by unfold getN; rw [hH, hV]
    have HE := Lib.hid hE
    have HH := Lib.hid hH
    have HV := Lib.hid hV
    clear hs
    by_cases hsh : n < H + V + 5
    · have HG := Lib.hid (getE_short hE (by rw [hgn, hn]; exact hsh))
      have hshI : (n : Int) < (H : Int) + (V : Int) + 5 := by omega
      clear hn hE hH hV hgn hnum hsh
      go_enter Tryd.func22, Tryd.ntmps22
      go_wp2_with (first
        | (go_at_call 44; refine (measure_ok HN.out HE.out HH.out HV.out (HS.out.alloc _)).mono ?_; rintro e w1 ⟨rfl, m1⟩; have bA := HB0.out.mods m1 (fun h => h); obtain ⟨a0, a1, a2, a3⟩ := bA.two; obtain ⟨b0, b1, b2, b3⟩ := (set_one bA (.int .u8 0) (.slice none 0 0)).two; have M1 := Lib.hid (((Mods.refl Nil w).alloc _).trans m1); clear m1 bA))
      exact bodyPost_ret (v := .tuple #[.agg #[.int .u8 0, .slice none 0 0], .int .i64 0, .int .i64 10]) (by simp [results, Tryd.results22, go_sem, b0, b1]) rfl (Got.bad HG.out (by decide) ((M1.out.setNew (Nat.le_refl _) _).setNew (Nat.le_refl _) _))
    · have hshI : (H : Int) + (V : Int) + 5 ≤ (n : Int) := by omega
      have hend0 : (0 : Int) ≤ (H : Int) + (V : Int) + 5 := by omega
      have hendc : (H : Int) + (V : Int) + 5 ≤ (c : Int) := by omega
      have hendN : ((H : Int) + (V : Int) + 5).toNat = H + V + 5 := by omega
      obtain ⟨N, hN⟩ : ∃ N, H + V + 5 = N := ⟨_, rfl⟩
      have hNI : (H : Int) + (V : Int) + 5 = (N : Int) := by omega
      have htl : (xs.take N).length = N := by simp; omega
      have HT : Hid (Sl w A c (bts (xs.take N))) := by have := HS.out.take N; rw [bts_take] at this; exact this
      have HTL := Lib.hid htl
      have q1 : ∀ W : World, (Instr.slice 22 (.slice A n c) none (some (.int .i64 ((H : Int) + (V : Int) + 5))) none).run Tryd.prog W = .ok (.slice A N c) W := by
        intro W
        rw [hNI, run_slice_h (P := Tryd.prog) W _ A n c (by exact Tryd.underlying22) .i64 (N : Int) (by omega) (by omega)]
        rw [sizeByte]
        simp [Result.andThen, sliced, Addr.add]
      by_cases hr : rightOf (xs.take N) = false
      · have HG := Lib.hid (getE_sum hE (by rw [hgn, hn]; omega) (by rw [hgn, hN]; exact hr))
        clear hn hE hH hV hgn hnum hsh htl
        go_enter Tryd.func22, Tryd.ntmps22
        go_wp2_with (first
          | (go_at_call 44; refine (measure_ok HN.out HE.out HH.out HV.out (HS.out.alloc _)).mono ?_; rintro e w1 ⟨rfl, m1⟩; have bA := Lib.hid (HB0.out.mods m1 (fun h => h)); have M1 := Lib.hid (((Mods.refl Nil w).alloc _).trans m1); clear m1)
          | (go_at_call 45; refine (right_any HTL.out (HT.out.mods M1.out (fun _ _ h => h))).mono ?_; rintro e w2 ⟨he, m2⟩; rw [hr] at he; subst he; have bA := bA.out.mods m2 (fun h => h); obtain ⟨a0, a1, a2, a3⟩ := bA.two; obtain ⟨b0, b1, b2, b3⟩ := (set_one bA (.int .u8 0) (.slice none 0 0)).two; have M2 := Lib.hid (M1.out.trans m2); clear m2 bA))
        exact bodyPost_ret (v := .tuple #[.agg #[.int .u8 0, .slice none 0 0], .int .i64 0, .int .i64 14]) (by simp [results, Tryd.results22, go_sem, b0, b1]) rfl (Got.bad HG.out (by decide) ((M2.out.setNew (Nat.le_refl _) _).setNew (Nat.le_refl _) _))
      · have hr1 : rightOf (xs.take N) = true := by simpa using hr
        have hG : getE xs = 0 := getE_of hnum (by omega) (by rw [hgn, hn]; omega) (by rw [hgn, hN]; exact hr1)
        obtain ⟨b, off, rfl, hbb, hcell⟩ := HS.out.at_ (by simp; omega)
        have hHlt : H < xs.length := by omega
        have h0 : w.cell? ⟨b, off + H, none⟩ = some (.int .u8 (xs[H].toNat : Int)) := hcell H _ (bts_get xs H hHlt)
        have hK : getK xs = xs[H] := by unfold getK; rw [hH, List.drop_eq_getElem_cons hHlt]; rfl
        obtain ⟨B, hB⟩ : ∃ B, getB xs = B := ⟨_, rfl⟩
        have hBl : B.length = V := by rw [← hB, getB_length (by rw [hgn, hn]; omega), hV]
        have hbody : Sl w (some ⟨b, off + (H + 1), none⟩) (c - (H + 1)) (bts B) := by
          have h1 := (HS.out.cut (k := H + 1) (by simp; omega)).take V
          rw [if_neg (by omega), bts_drop, bts_take] at h1
          simp only [Option.map_some, Addr.add_lit] at h1
          rw [← hB]
          unfold getB
          rw [hH, hV]
          exact h1
        have q2 : ∀ W : World, (Instr.slice 22 (.slice (some ⟨b, off, none⟩) n c) (some (.int .i64 ((H : Int) + 1))) (some (.int .i64 ((H : Int) + 1 + (V : Int)))) none).run Tryd.prog W = .ok (.slice (some ⟨b, off + (H + 1), none⟩) V (c - (H + 1))) W := by
          intro W
          rw [run_slice_lh (P := Tryd.prog) W _ _ n c (by exact Tryd.underlying22) .i64 .i64 ((H : Int) + 1) ((H : Int) + 1 + (V : Int)) (by omega) (by omega) (by omega)]
          rw [sizeByte]
          have e1 : ((H : Int) + 1).toNat = H + 1 := by omega
          have e2 : ((H : Int) + 1 + (V : Int)).toNat = H + 1 + V := by omega
          simp only [Result.andThen, sliced, e1, e2]
          rw [if_neg (by omega), Nat.mul_one, show H + 1 + V - (H + 1) = V by omega]
          simp [Addr.add_lit]
        have HBD := Lib.hid hbody
        have HBL := Lib.hid hBl
        have HG : Hid (∀ w' A' c', Sl w' A' c' (bts B) → (∀ a, A' = some a → w.heap.size ≤ a.block ∧ ∃ cs, Blk w' a.block 5 cs) → Mods Nil w w' → Got w xs (.returned (.tuple #[.agg #[.int .u8 (xs[H].toNat : Int), .slice A' V c'], .int .i64 (N : Int), .int .i64 0])) w') := fun w' A' c' h1 h2 h3 => by
          unfold Got gotK gotB gotN
          rw [if_pos hG, if_pos hG, if_pos hG, hK, hB, hgn, hN, hG]
          exact ⟨A', c', by rw [hBl], h1, h2, h3⟩
        have hx256 := xs[H].toNat_lt
        have HR := Lib.hid hr1
        have hHI : (H : Int) < (n : Int) := by omega
        have hHn : H < n := by omega
        generalize xs[H].toNat = y at h0 hx256 HG
        clear hcell hn hE hH hV hgn hnum hsh htl hK hB hBl hbody hG hr hr1
        go_enter Tryd.func22, Tryd.ntmps22
        go_wp2_with (first
          | (go_at_call 44; refine (measure_ok HN.out HE.out HH.out HV.out (HS.out.alloc _)).mono ?_; rintro e w1 ⟨rfl, m1⟩; have bA := Lib.hid (HB0.out.mods m1 (fun h => h)); have M1 := Lib.hid (((Mods.refl Nil w).alloc _).trans m1); clear m1)
          | (go_at_call 45; refine (right_any HTL.out (HT.out.mods M1.out (fun _ _ h => h))).mono ?_; rintro e w2 ⟨he, m2⟩; rw [HR.out] at he; subst he; have bA2 := Lib.hid (bA.out.mods m2 (fun h => h)); have M2 := Lib.hid (M1.out.trans m2); clear m2))
        have hcw : w2.cell? ⟨b, off + H, none⟩ = some (.int .u8 (y : Int)) := (World.cell?_of_block (M2.out.block b hbb (fun h => h))).trans h0
        have HBD2 := Lib.hid (HBD.out.mods M2.out (fun _ _ h => h))
        have hlt0 : w.heap.size + 1 ≤ w2.heap.size := bA2.out.lt
        go_region_law (refine step_append_sl _ rfl _ _ 22 rfl (w.heap.size + 1) 5 i0 (.int .u8 0) 1 Tryd.underlying22 hi hz0 hz1 hz2 rfl (.slice none 0 0) 0 [] rfl (World.ownsRow_nil _ _ _ _) (some ⟨b, off + (H + 1), none⟩) V (c - (H + 1)) (bts B) rfl (by simp; exact HBL.out) (by exact HBD2.out.drew) (bts_one _) (by omega) (by unfold maxLen; omega) (by exact hlt0) ?_; intro v3 w3 hown hgrow hblk; simp only [Nat.zero_add, List.nil_append] at hown; have OT := Lib.hid (own_typed hown); obtain ⟨A3, c3, rfl, -, s3, b3⟩ := own_slice hown; have m3 : Mods Nil w2 w3 := Mods.ofGrown (grown_of_drew hgrow); have S3 := Lib.hid s3; have B3 := Lib.hid b3; have M3 := Lib.hid (M2.out.trans m3); have hcw3 : w3.cell? ⟨b, off + H, none⟩ = some (.int .u8 (y : Int)) := (World.cell?_of_block (M3.out.block b hbb (fun h => h))).trans h0; have bA3 := bA2.out.mods m3 (fun h => h); obtain ⟨f0, f1, f2, f3⟩ := bA3.two; obtain ⟨g0, g1, g2, g3⟩ := (set_one bA3 (.int .u8 (y : Int)) (.slice A3 V c3)).two; clear hown hgrow hblk s3 b3 m3 bA3)
        all_goals
          go_wp2
          exact bodyPost_ret (v := .tuple #[.agg #[.int .u8 (y : Int), .slice A3 V c3], .int .i64 (N : Int), .int .i64 0]) (by simp [results, Tryd.results22, go_sem, g0, g1, ← hNI]) rfl (HG.out _ _ _ (S3.out.mods (Mods.two w3 w.heap.size _ _) (fun a ha h => by have := (B3.out a ha).2; omega)) (fun a ha => ⟨by have := (B3.out a ha).2; omega, by obtain ⟨cs, hb⟩ := OT.out _ (B3.out a ha).1; exact ⟨cs, hb.mods (Mods.two w3 w.heap.size _ _) (by have := (B3.out a ha).2; omega)⟩⟩) ((M3.out.setNew (Nat.le_refl _) _).setNew (Nat.le_refl _) _))
  · have HG := Lib.hid (getE_meas hE)
    obtain ⟨E, hEE⟩ : ∃ E, measE xs = E := ⟨_, rfl⟩
    rw [hEE] at hE HG
    have HE := Lib.hid hEE
    have H0 := Lib.hid hE
    have hb2 : (E != 0) = true := by simp [hE]
    have hb3 : (E == 0) = false := by simp [hE]
    clear hs hn hE hEE
    go_enter Tryd.func22, Tryd.ntmps22
    go_wp2_with (first
      | (go_at_call 44; refine (measure_bad HN.out HE.out H0.out (HS.out.alloc _)).mono ?_; rintro e w1 ⟨rfl, m1⟩; have bA := HB0.out.mods m1 (fun h => h); obtain ⟨a0, a1, a2, a3⟩ := bA.two; obtain ⟨b0, b1, b2, b3⟩ := (set_one bA (.int .u8 0) (.slice none 0 0)).two; have M1 := Lib.hid (((Mods.refl Nil w).alloc _).trans m1); clear m1 bA))
    exact bodyPost_ret (v := .tuple #[.agg #[.int .u8 0, .slice none 0 0], .int .i64 0, .int .i64 E]) (by simp [results, Tryd.results22, go_sem, b0, b1]) rfl (Got.bad HG.out H0.out ((M1.out.setNew (Nat.le_refl _) _).setNew (Nat.le_refl _) _))
end Go.Proofs.YtlheaicojmjdpaaDoor
end

section
/- Package frame: a frame's bytes. -/
namespace Go.Proofs.YtlheaicojmjdpaaDoor
set_option maxRecDepth 100000
open Go.RowKit
set_option linter.unusedVariables false

theorem IsWriter.keeps {w w' : World} {base g : Nat} {v v' : Value} {out : List UInt8} (hw : IsWriter w base g v out) (h : Wrote w w' g v v') : Mods (fun k => base ≤ k) w w' :=
  h.mods.mono (fun i _ hs => by
    rcases hs with rfl | hs
    · exact hw.le
    · exact (hw.own.lt _ hs).1)

theorem fput_big {w : World} {A : Option Addr} {c n : Nat} {k : Int} (hbig : 65535 < n) (hn : n ≤ 140737488355328) :
    Calls Tryd.prog 19 #[.agg #[.int .u8 k, .slice A n c]] w fun e w' => e = .returned (.tuple #[.slice none 0 0, .int .i64 13]) ∧ Mods Nil w w' := by
  have hb : (65535 : Int) < (n : Int) := by omega
  obtain ⟨b0, b1, b2, b3⟩ := (Blk.new w 50 #[.int .u8 k, .slice A n c]).two
  go_enter Tryd.func19, Tryd.ntmps19
  go_wp2_with fail
  go_ret2
  exact ⟨rfl, (Mods.refl _ _).alloc _⟩

set_option maxHeartbeats 3200000 in
theorem fput_any {w : World} {A : Option Addr} {c n m : Nat} {k : UInt8} {body : List UInt8} (hn : body.length = n) (h6 : n ≤ 65535) (hm : (frameOf k body).length = m) (hs : Sl w A c (bts body)) :
    Calls Tryd.prog 19 #[.agg #[.int .u8 (k.toNat : Int), .slice A n c]] w fun e w' => ∃ v, e = .returned (.tuple #[v, .int .i64 0]) ∧ w'.ownsRow w.heap.size 5 1 v m (bts (frameOf k body)) ∧ Mods Nil w w' := by
  have hb : (n : Int) ≤ 65535 := by omega
  have hl9 := putU_length n (by omega)
  have hwr : IntKind.u64.wrap (n : Int) = (n : Int) := by rw [IntKind.wrap_u64]; omega
  have hn0 : (0 : Int) ≤ (n : Int) := by omega
  have HB0 := Lib.hid (Blk.new w 50 #[.int .u8 (k.toNat : Int), .slice A n c])
  obtain ⟨b0, b1, b2, b3⟩ := HB0.out.two
  have hlen : (([] ++ putU n) ++ [k] ++ body).length + 4 = m := by rw [← hm, frameOf_length, hn]; simp; omega
  obtain ⟨q, hq⟩ : ∃ q, (([] ++ putU n) ++ [k] ++ body).length = q := ⟨_, rfl⟩
  have hqm : q + 4 = m := by omega
  have HF : Hid (frameOf k body = sealedOf (([] ++ putU n) ++ [k] ++ body)) := by
    show _ = _
    unfold frameOf; rw [hn, List.nil_append]
  have HQ := Lib.hid hq
  have HN := Lib.hid hn
  have HS := Lib.hid hs
  have HL := Lib.hid hl9
  have HQM := Lib.hid hqm
  have hq9 : q ≤ 100000 := by rw [← hq]; simp; omega
  clear hs hn hm hlen hq hl9 hqm
  go_enter Tryd.func19, Tryd.ntmps19
  go_wp2_with (first
    | (go_at_call 29; refine (newWriter_any _).mono ?_; rintro e w1 ⟨rfl, h1, m1⟩; simp only [World.size_alloc] at h1; have H1 := Lib.hid h1; have B1 := Lib.hid (HB0.out.mods m1 (fun h => h)); obtain ⟨c0, c1, c2, c3⟩ := B1.out.two; have M1 := Lib.hid (((Mods.refl Nil w).alloc _).trans m1); clear h1 m1)
    | (go_at_call 38; refine (wuint_any n (by omega) (by simp) H1.out).mono ?_; rintro e w2 ⟨rfl, v2, h2, r2⟩; have k2 := H1.out.keeps r2; have H2 := Lib.hid h2; have B2 := Lib.hid (B1.out.mods k2 (fun h => by omega)); obtain ⟨d0, d1, d2, d3⟩ := B2.out.two; have M2 := Lib.hid (M1.out.nil_trans k2 (fun i h => by omega)); clear h2 r2 k2)
    | (go_at_call_of 39 (Value.slice A n c); refine (wraw_any HN.out (by have := HL.out; have := HN.out; simp; omega) H3.out (HS.out.mods M3.out (fun _ _ h => h))).mono ?_; rintro e w4 ⟨rfl, v4, h4, r4⟩; have k4 := H3.out.keeps r4; have H4 := Lib.hid h4; have M4 := Lib.hid (M3.out.nil_trans k4 (fun i h => by omega)); clear h4 r4 k4)
    | (go_at_call 39; refine (wraw_any (ys := [k]) rfl (by have := HL.out; simp; omega) (H2.out.alloc _) (one_sl _ _ _)).mono ?_; rintro e w3 ⟨rfl, v3, h3, r3⟩; have k3 := (H2.out.alloc _).keeps r3; have H3 := Lib.hid h3; have B3 := Lib.hid ((B2.out.alloc _).mods k3 (fun h => by omega)); obtain ⟨f0, f1, f2, f3⟩ := B3.out.two; have M3 := Lib.hid ((M2.out.alloc _).nil_trans k3 (fun i h => by omega)); clear h3 r3 k3)
    | (go_at_call 32; refine (out_any HQ.out (by have := HQ.out; omega) H4.out).mono ?_; rintro e w5 ⟨A5, c5, rfl, s5, b5, m5⟩; have S5 := Lib.hid s5; have M5 := Lib.hid (M4.out.trans m5); clear s5 b5 m5)
    | (go_at_call 40; refine (sealed_any HQ.out (by omega) S5.out).mono ?_; rintro e w6 ⟨v6, rfl, o6, m6⟩; have O6 := Lib.hid (own_rebase o6 M5.out.size); have M6 := Lib.hid (M5.out.trans m6); clear o6 m6))
  go_ret2
  exact ⟨v6, rfl, by rw [HF.out, ← HQM.out]; exact O6.out, M6.out⟩

/-- The same, as a slice. -/
theorem fput_to {w : World} {A : Option Addr} {c n m : Nat} {k : UInt8} {body : List UInt8} (hn : body.length = n) (h6 : n ≤ 65535) (hm : (frameOf k body).length = m) (hs : Sl w A c (bts body)) :
    Calls Tryd.prog 19 #[.agg #[.int .u8 (k.toNat : Int), .slice A n c]] w fun e w' => ∃ A' c', e = .returned (.tuple #[.slice A' m c', .int .i64 0]) ∧ Sl w' A' c' (bts (frameOf k body)) ∧ m ≤ c' ∧ c' ≤ maxLen ∧ (∀ a, A' = some a → w.heap.size ≤ a.block) ∧ Mods Nil w w' := by
  refine (fput_any hn h6 hm hs).mono ?_
  rintro e w' ⟨v, rfl, o, mo⟩
  obtain ⟨A', c', rfl, f, s, b⟩ := own_slice o
  exact ⟨A', c', rfl, s, by have := s.le; rw [bts_length] at this; omega, s.max, fun a ha => (b a ha).2, mo⟩
end Go.Proofs.YtlheaicojmjdpaaDoor
end
