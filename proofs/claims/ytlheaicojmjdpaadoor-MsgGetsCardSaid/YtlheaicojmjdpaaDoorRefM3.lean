/- Texts laid as one: Ref03, Ref03b. -/
import Derived.Test.YtlheaicojmjdpaaDoorRefM1
import Derived.Test.YtlheaicojmjdpaaDoorRefM2
import Derived.Test.YtlheaicojmjdpaaDoorFrame0
import Derived.Deep.RegionHeld

import Derived.Test.YtlheaicojmjdpaaDoorFrameM
import Derived.BigQuiet
import Derived.Deep.QuietTactic

section
/- The reference of layer 3: a frame's text. -/
namespace Go.Proofs.YtlheaicojmjdpaaDoor
set_option maxRecDepth 100000
open Go.RowKit
set_option linter.unusedVariables false

set_option maxRecDepth 100000 in
set_option maxHeartbeats 6400000 in
theorem r3put_any (w : World) (k : UInt8) (body : List UInt8) (h6 : body.length ≤ 65535) :
    Calls Tryd.prog 10 #[.agg #[.int .u8 (k.toNat : Int), .string (strOf body)]] w fun e w' => e = .returned (.tuple #[.string (strOf (frameOf k body)), .int .i64 0]) ∧ Mods Nil w w' := by
  obtain ⟨n, hn⟩ : ∃ n, body.length = n := ⟨_, rfl⟩
  have hsz : (strOf body).size = n := by simp [hn]
  have hb : (n : Int) ≤ 65535 := by omega
  have hn0 : (0 : Int) ≤ (n : Int) := by omega
  have hwr : IntKind.u64.wrap (n : Int) = (n : Int) := by rw [IntKind.wrap_u64]; omega
  have hl9 := putU_length n (by omega)
  obtain ⟨w0, hw0⟩ : ∃ w0, w.alloc (.cells #[.int .u8 (k.toNat : Int), .string (strOf body)] 28) = w0 := ⟨_, rfl⟩
  have hB := Blk.new w 28 #[.int .u8 (k.toNat : Int), .string (strOf body)]
  rw [hw0] at hB
  have m0 : Mods Nil w w0 := by rw [← hw0]; exact (Mods.refl _ _).alloc _
  have hc0 : ∀ W : World, Mods Nil w0 W → W.cell? ⟨w.heap.size, 0, none⟩ = some (.int .u8 (k.toNat : Int)) := fun W h => (hB.mods h (fun h => h)).two.1
  have hc1 : ∀ W : World, Mods Nil w0 W → W.cell? ⟨w.heap.size, 1, none⟩ = some (.string (strOf body)) := fun W h => (hB.mods h (fun h => h)).two.2.1
  have d0 := hc0 w0 (Mods.refl _ _)
  have d1 := hc1 w0 (Mods.refl _ _)
  have hadd1 := fun W => string_add Tryd.prog (putU n) [k] (by simp; omega) W
  have hadd2 := fun W => string_add Tryd.prog (putU n ++ [k]) body (by simp; omega) W
  have HF : Hid (frameOf k body = sealedOf (putU n ++ k :: body)) := by show _ = _; unfold frameOf; rw [hn]; simp
  have k1 := fun W => one_string W (k.toNat : Int) k rfl (0, 0)
  have k2 := fun (W : World) => one_string_later (w := W) (k.toNat : Int) k rfl (0, 0) (Mods.refl Nil (W.alloc _)).drew
  have HL := Lib.hid (show (putU n ++ k :: body).length ≤ 140737488355328 by simp; omega)
  have M0 := Lib.hid m0
  have HW0 := Lib.hid hw0
  clear hn hl9 h6 hB m0
  go_enter Tryd.func10, Tryd.ntmps10
  have hw1 := HW0.out
  go_wp2_with fail
  clear hw1
  go_region_held (fun W => Mods Nil w0 W) (first | exact (Mods.refl Nil w0).drew | assumption | exact Mods.alloc (by assumption) _ | exact Mods.alloc (Mods.refl Nil w0).drew _ | exact (Mods.alloc (Mods.refl Nil w0) _).drew) (first
    | (go_at_call 21; refine (ruint_any n (by omega) _).mono ?_; rintro e w2 ⟨rfl, m2⟩; have hq2 : Mods Nil w0 w2 := Mods.trans (by first | exact (Mods.refl Nil w0).drew | assumption | exact Mods.alloc (by assumption) _ | exact Mods.alloc (Mods.refl Nil w0).drew _ | exact (Mods.alloc (Mods.refl Nil w0) _).drew) m2; first | (have q2 : (convert 22 9 (.slice (some ⟨w0.heap.size, 0, none⟩) 1 1)).run Tryd.prog w2 = .ok (.string (strOf [k])) w2 := one_string_later (w := w0.drew) _ _ rfl (0, 0) m2) | (have q2 : (convert 22 9 (.slice (some ⟨w0.heap.size, 0, none⟩) 1 1)).run Tryd.prog w2 = .ok (.string (strOf [k])) w2 := one_string_later (w := w0) _ _ rfl (0, 0) m2.of_drew) | skip; clear m2)
    | (go_at_call 20; refine (rsealed_any _ (putU n ++ k :: body) HL.out).mono ?_; rintro e w3 ⟨rfl, m3⟩; have hq3 : Mods Nil w0 w3 := Mods.trans (by first | assumption | exact Mods.alloc (by assumption) _) m3; clear m3))
  all_goals
    go_wp2
    go_ret2
    rw [HF.out]
    exact ⟨rfl, M0.out.trans (by assumption)⟩
end Go.Proofs.YtlheaicojmjdpaaDoor
end

section
/- The reference of layer 3: the frame at the front of a text. -/
namespace Go.Proofs.YtlheaicojmjdpaaDoor
set_option maxRecDepth 100000
open Go.RowKit
set_option linter.unusedVariables false

/-- What a call of the reference's Get leaves. -/
def RGot (w : World) (xs : List UInt8) (e : Ending) (w' : World) : Prop :=
  e = .returned (.tuple #[.agg #[.int .u8 ((gotK xs).toNat : Int), .string (strOf (gotB xs))], .int .i64 (gotN xs : Int), .int .i64 (getE xs)]) ∧ Mods Nil w w'
theorem RGot.bad {w w' : World} {xs : List UInt8} {E : Int} (hE : getE xs = E) (h0 : E ≠ 0) (hm : Mods Nil w w') : RGot w xs (.returned (.tuple #[.agg #[.int .u8 0, .string ⟨#[]⟩], .int .i64 0, .int .i64 E])) w' := by
  subst hE
  unfold RGot gotK gotB gotN
  rw [if_neg h0, if_neg h0, if_neg h0]
  exact ⟨rfl, hm⟩
theorem RGot.good {w w' : World} {xs bb : List UInt8} {y N : Nat} (hE : getE xs = 0) (hK : (getK xs).toNat = y) (hB : getB xs = bb) (hN : getN xs = N) (hm : Mods Nil w w') : RGot w xs (.returned (.tuple #[.agg #[.int .u8 (y : Int), .string (strOf bb)], .int .i64 (N : Int), .int .i64 0])) w' := by
  subst hK; subst hB; subst hN
  unfold RGot gotK gotB gotN
  rw [if_pos hE, if_pos hE, if_pos hE, hE]
  exact ⟨rfl, hm⟩

/-- Read, at a number that is none; at one. -/
theorem rread_bad (w : World) {xs : List UInt8} {E : Int} (hE : numErr xs = E) (h0 : E ≠ 0) (hB : xs.length ≤ 140737488355328) :
    Calls Tryd.prog 49 #[.agg #[.string (strOf xs), .int .i64 0]] w fun e w' => ∃ B', e = .returned (.tuple #[.agg #[.string (strOf B'), .int .i64 E], .int .u64 0]) ∧ Mods Nil w w' := by
  have := rread_any w xs 0 hB
  rw [readUint_bad (by rw [hE]; exact h0), hE] at this
  refine this.mono ?_
  rintro e w' ⟨B', he, _, _, hm⟩
  exact ⟨B', he, hm⟩
theorem rread_ok (w : World) {xs rest : List UInt8} {V : Nat} (hE : numErr xs = 0) (hr : xs.drop (hdOf xs) = rest) (hV : szOf xs = V) (hB : xs.length ≤ 140737488355328) :
    Calls Tryd.prog 49 #[.agg #[.string (strOf xs), .int .i64 0]] w fun e w' => e = .returned (.tuple #[.agg #[.string (strOf rest), .int .i64 0], .int .u64 (V : Int)]) ∧ Mods Nil w w' := by
  have := rread_any w xs 0 hB
  rw [readUint_ok hE, hr, hV] at this
  refine this.mono ?_
  rintro e w' ⟨B', he, h1, _, hm⟩
  obtain rfl : B' = rest := h1 rfl
  exact ⟨he, hm⟩

set_option maxRecDepth 100000 in
set_option maxHeartbeats 6400000 in
theorem r3get_any (w : World) (xs : List UInt8) (hl : xs.length ≤ 140737488355328) :
    Calls Tryd.prog 25 #[.string (strOf xs)] w (RGot w xs) := by
  obtain ⟨n, hn⟩ : ∃ n, xs.length = n := ⟨_, rfl⟩
  have hsz : (strOf xs).size = n := by simp [hn]
  have HB0 := Lib.hid (Blk.new w 28 #[.int .u8 0, .string ⟨#[]⟩])
  by_cases hnum : numErr xs = 0
  · obtain ⟨H, hH⟩ : ∃ H, hdOf xs = H := ⟨_, rfl⟩
    obtain ⟨V, hV⟩ : ∃ V, szOf xs = V := ⟨_, rfl⟩
    obtain ⟨rest, hrest⟩ : ∃ rest, xs.drop (hdOf xs) = rest := ⟨_, rfl⟩
    obtain ⟨R, hR⟩ : ∃ R, rest.length = R := ⟨_, rfl⟩
    have hH9 := hdOf_le hnum
    rw [hH] at hH9
    have hRn : R + H = n := by rw [← hR, ← hrest, hH]; simp; omega
    have hszR : (strOf rest).size = R := by simp [hR]
    have hV64 : V < 18446744073709551616 := by
      have := valOf_lt64 xs 0
      rw [readUint_ok hnum, hV] at this
      exact this
    have HNUM := Lib.hid hnum
    have HR := Lib.hid hrest
    have HV := Lib.hid hV
    have HL := Lib.hid hl
    have hl2 : n ≤ 140737488355328 := by omega
    by_cases hbig : 65535 < V
    · have hbI : (65535 : Int) < (V : Int) := by omega
      have hm : measE xs = 13 := by unfold measE; rw [if_neg (by simp [hnum]), if_pos (by omega)]
      have HG := Lib.hid (show getE xs = 13 by rw [getE_meas (by rw [hm]; decide), hm])
      clear hm hnum hl hn hH hV hrest hR hbig
      go_enter Tryd.func25, Tryd.ntmps25
      go_wp2_with (first
        | (go_at_call 49; refine (rread_ok _ HNUM.out HR.out HV.out HL.out).mono ?_; rintro e w2 ⟨rfl, m2⟩; have bF := HB0.out.mods m2 (fun h => h); have hlt := bF.lt; have bR := Blk.new w2 66 #[.string (strOf rest), .int .i64 0]; obtain ⟨a0, a1, a2, a3⟩ := bF.two; obtain ⟨b0, b1, b2, b3⟩ := bR.two; have bF2 := (set_one bF (.int .u8 0) (.string ⟨#[]⟩)).alloc (.cells #[.string (strOf rest), .int .i64 0] 66); obtain ⟨c0, c1, c2, c3⟩ := bF2.two; have BF := Lib.hid (bF.alloc (.cells #[.string (strOf rest), .int .i64 0] 66)); have BR := Lib.hid bR; have M2 := Lib.hid (((Mods.refl Nil w).alloc _).trans m2); clear m2 bF bR bF2))
      exact bodyPost_ret (v := .tuple #[.agg #[.int .u8 0, .string ⟨#[]⟩], .int .i64 0, .int .i64 13]) (by simp [results, Tryd.results25, go_sem, c0, c1]) rfl (RGot.bad HG.out (by decide) (((M2.out.setNew (Nat.le_refl _) _).setNew (Nat.le_refl _) _).alloc _))
    · have hbI : (V : Int) ≤ 65535 := by omega
      have hb6 : V ≤ 65535 := by omega
      have hm := measE_of hnum (by omega)
      obtain ⟨N, hN⟩ : ∃ N, H + V + 5 = N := ⟨_, rfl⟩
      have hgn : getN xs = N := by unfold getN; rw [hH, hV]; exact hN
      by_cases hsh : n < N
      · have hshI : (R : Int) < (V : Int) + 5 := by omega
        have HG := Lib.hid (getE_short hm (by rw [hgn, hn]; exact hsh))
        clear hm hnum hl hn hH hV hrest hR hbig hgn hsh
        go_enter Tryd.func25, Tryd.ntmps25
        go_wp2_with (first
          | (go_at_call 49; refine (rread_ok _ HNUM.out HR.out HV.out HL.out).mono ?_; rintro e w2 ⟨rfl, m2⟩; have bF := HB0.out.mods m2 (fun h => h); have hlt := bF.lt; have bR := Blk.new w2 66 #[.string (strOf rest), .int .i64 0]; obtain ⟨a0, a1, a2, a3⟩ := bF.two; obtain ⟨b0, b1, b2, b3⟩ := bR.two; have bF2 := (set_one bF (.int .u8 0) (.string ⟨#[]⟩)).alloc (.cells #[.string (strOf rest), .int .i64 0] 66); obtain ⟨c0, c1, c2, c3⟩ := bF2.two; have BF := Lib.hid (bF.alloc (.cells #[.string (strOf rest), .int .i64 0] 66)); have BR := Lib.hid bR; have M2 := Lib.hid (((Mods.refl Nil w).alloc _).trans m2); clear m2 bF bR bF2))
        exact bodyPost_ret (v := .tuple #[.agg #[.int .u8 0, .string ⟨#[]⟩], .int .i64 0, .int .i64 10]) (by simp [results, Tryd.results25, go_sem, c0, c1]) rfl (RGot.bad HG.out (by decide) (((M2.out.setNew (Nat.le_refl _) _).setNew (Nat.le_refl _) _).alloc _))
      · have hshI : (V : Int) + 5 ≤ (R : Int) := by omega
        have hnR : (n : Int) - (R : Int) = (H : Int) := by omega
        have hNI : (H : Int) + (V : Int) + 5 = (N : Int) := by omega
        have hN0 : (0 : Int) ≤ (N : Int) := by omega
        have hNn : (N : Int) ≤ (n : Int) := by omega
        have hNn' : N ≤ n := by omega
        have x1 : (strOf xs).extract 0 N = strOf (xs.take N) := by rw [strOf_extract]; simp
        by_cases hr : rightOf (xs.take N) = false
        · have HG := Lib.hid (getE_sum hm (by rw [hgn, hn]; omega) (by rw [hgn]; exact hr))
          clear hm hnum hl hn hH hV hrest hR hbig hgn hsh
          go_enter Tryd.func25, Tryd.ntmps25
          go_wp2_with (first
            | (go_at_call 49; refine (rread_ok _ HNUM.out HR.out HV.out HL.out).mono ?_; rintro e w2 ⟨rfl, m2⟩; have bF := HB0.out.mods m2 (fun h => h); have hlt := bF.lt; have bR := Blk.new w2 66 #[.string (strOf rest), .int .i64 0]; obtain ⟨a0, a1, a2, a3⟩ := bF.two; obtain ⟨b0, b1, b2, b3⟩ := bR.two; have bF2 := (set_one bF (.int .u8 0) (.string ⟨#[]⟩)).alloc (.cells #[.string (strOf rest), .int .i64 0] 66); obtain ⟨c0, c1, c2, c3⟩ := bF2.two; have BF := Lib.hid (bF.alloc (.cells #[.string (strOf rest), .int .i64 0] 66)); have BR := Lib.hid bR; have M2 := Lib.hid (((Mods.refl Nil w).alloc _).trans m2); clear m2 bF bR bF2)
            | (go_at_call 50; refine (rright_any _ (xs.take N) (by have := HL.out; simp; omega)).mono ?_; rintro e w3 ⟨he, m3⟩; rw [hr] at he; subst he; have bF3 := BF.out.mods m3 (fun h => h); obtain ⟨f0, f1, f2, f3⟩ := bF3.two; have bR3 := BR.out.mods m3 (fun h => h); obtain ⟨g0, g1, g2, g3⟩ := bR3.two; obtain ⟨k0, k1, k2, k3⟩ := (set_one bF3 (.int .u8 0) (.string ⟨#[]⟩)).two; have M3 := Lib.hid ((M2.out.alloc _).trans m3); clear m3 bF3 bR3))
          exact bodyPost_ret (v := .tuple #[.agg #[.int .u8 0, .string ⟨#[]⟩], .int .i64 0, .int .i64 14]) (by simp [results, Tryd.results25, go_sem, k0, k1]) rfl (RGot.bad HG.out (by decide) ((M3.out.setNew (Nat.le_refl _) _).setNew (Nat.le_refl _) _))
        · have hr : rightOf (xs.take N) = true := by simpa using hr
          have hE : getE xs = 0 := getE_of hnum (by omega) (by rw [hgn, hn]; omega) (by rw [hgn]; exact hr)
          have hRpos : 0 < rest.length := by omega
          have hK : (getK xs).toNat = rest[0].toNat := by
            have hd : ∀ (l : List UInt8) (h : 0 < l.length), l.headD 0 = l[0] := by
              intro l h
              cases l with
              | nil => simp at h
              | cons a t => rfl
            unfold getK
            rw [hrest, hd rest hRpos]
          obtain ⟨bb, hbb⟩ : ∃ bb, getB xs = bb := ⟨_, rfl⟩
          obtain ⟨N1, hN1⟩ : ∃ N1, 1 + V = N1 := ⟨_, rfl⟩
          have hN1I : 1 + (V : Int) = (N1 : Int) := by omega
          have hN1R : (N1 : Int) ≤ (R : Int) := by omega
          have hN1R' : N1 ≤ R := by omega
          have hN10 : (1 : Int) ≤ (N1 : Int) := by omega
          have hN10' : 1 ≤ N1 := by omega
          have x2 : (strOf rest).extract 1 N1 = strOf bb := by
            rw [strOf_extract, ← hbb]
            unfold getB
            subst hrest
            rw [List.drop_drop, hV, show N1 - 1 = V by omega]
          have hix : ∀ W : World, (Instr.index 9 (.string (strOf rest)) (.int .i64 0)).run Tryd.prog W = .ok (.int .u8 (rest[0].toNat : Int)) W := fun W => index_strOf W rest 0 hRpos
          have HG : Hid (∀ w', Mods Nil w w' → RGot w xs (.returned (.tuple #[.agg #[.int .u8 (rest[0].toNat : Int), .string (strOf bb)], .int .i64 (N : Int), .int .i64 0])) w') := fun w' h => RGot.good hE hK hbb hgn h
          generalize rest[0].toNat = y at hix HG
          clear hm hnum hl hn hH hV hrest hR hbig hgn hsh hE hbb hK hRpos
          go_enter Tryd.func25, Tryd.ntmps25
          go_wp2_with (first
            | (go_at_call 49; refine (rread_ok _ HNUM.out HR.out HV.out HL.out).mono ?_; rintro e w2 ⟨rfl, m2⟩; have bF := HB0.out.mods m2 (fun h => h); have hlt := bF.lt; have bR := Blk.new w2 66 #[.string (strOf rest), .int .i64 0]; obtain ⟨a0, a1, a2, a3⟩ := bF.two; obtain ⟨b0, b1, b2, b3⟩ := bR.two; have bF2 := (set_one bF (.int .u8 0) (.string ⟨#[]⟩)).alloc (.cells #[.string (strOf rest), .int .i64 0] 66); obtain ⟨c0, c1, c2, c3⟩ := bF2.two; have BF := Lib.hid (bF.alloc (.cells #[.string (strOf rest), .int .i64 0] 66)); have BR := Lib.hid bR; have M2 := Lib.hid (((Mods.refl Nil w).alloc _).trans m2); clear m2 bF bR bF2)
            | (go_at_call 50; refine (rright_any _ (xs.take N) (by have := HL.out; simp; omega)).mono ?_; rintro e w3 ⟨he, m3⟩; rw [hr] at he; subst he; have bF3 := BF.out.mods m3 (fun h => h); obtain ⟨f0, f1, f2, f3⟩ := bF3.two; have bR3 := BR.out.mods m3 (fun h => h); obtain ⟨g0, g1, g2, g3⟩ := bR3.two; obtain ⟨k0, k1, k2, k3⟩ := (set_one bF3 (.int .u8 (y : Int)) (.string (strOf bb))).two; have M3 := Lib.hid ((M2.out.alloc _).trans m3); clear m3 bF3 bR3))
          go_region
          all_goals
            go_wp2
            exact bodyPost_ret (v := .tuple #[.agg #[.int .u8 (y : Int), .string (strOf bb)], .int .i64 (N : Int), .int .i64 0]) (by simp [results, Tryd.results25, go_sem, k0, k1]) rfl (HG.out _ (((M3.out.setNew (Nat.le_refl _) _).setNew (Nat.le_refl _) _).drew))
  · obtain ⟨E, hE⟩ : ∃ E, numErr xs = E := ⟨_, rfl⟩
    have hm : measE xs = E := by unfold measE; rw [if_pos hnum, hE]
    rw [hE] at hnum
    have HG := Lib.hid (show getE xs = E by rw [getE_meas (by rw [hm]; exact hnum), hm])
    have HE := Lib.hid hE
    have H0 := Lib.hid hnum
    have HL := Lib.hid hl
    have hb2 : (E != 0) = true := by simp [hnum]
    have hb3 : (E == 0) = false := by simp [hnum]
    clear hm hE hnum hl hn
    go_enter Tryd.func25, Tryd.ntmps25
    go_wp2_with (first
      | (go_at_call 49; refine (rread_bad _ HE.out H0.out HL.out).mono ?_; rintro e w2 ⟨B', rfl, m2⟩; have bF := HB0.out.mods m2 (fun h => h); have hlt := bF.lt; have bR := Blk.new w2 66 #[.string (strOf B'), .int .i64 E]; obtain ⟨a0, a1, a2, a3⟩ := bF.two; obtain ⟨b0, b1, b2, b3⟩ := bR.two; have bF2 := (set_one bF (.int .u8 0) (.string ⟨#[]⟩)).alloc (.cells #[.string (strOf B'), .int .i64 E] 66); obtain ⟨c0, c1, c2, c3⟩ := bF2.two; have M2 := Lib.hid (((Mods.refl Nil w).alloc _).trans m2); clear m2 bF bR bF2))
    go_region
    all_goals
      go_wp2
      exact bodyPost_ret (v := .tuple #[.agg #[.int .u8 0, .string ⟨#[]⟩], .int .i64 0, .int .i64 E]) (by simp [results, Tryd.results25, go_sem, c0, c1]) rfl (RGot.bad HG.out H0.out ((((M2.out.setNew (Nat.le_refl _) _).setNew (Nat.le_refl _) _).alloc _).drew))
end Go.Proofs.YtlheaicojmjdpaaDoor
end
