/- The reference of layer 7: Block. -/
import Derived.Test.YtdllgmhipenidaaRef07a
import Derived.Deep.DeepCutAuto
namespace Go.Proofs.Ytdllgmhipenidaa
set_option maxRecDepth 100000
open Go.RowKit
set_option linter.unusedVariables false

theorem three_string (W : World) {a b c : Nat} {x y z : UInt8} (ha : x.toNat = a) (hb : y.toNat = b) (hc : z.toNat = c) :
    (convert 42 9 (.slice (some ⟨W.heap.size, 0, none⟩) 3 3)).run Try.prog (W.alloc (.cells #[.int .u8 (a : Int), .int .u8 (b : Int), .int .u8 (c : Int)] 5)) = .ok (.string (strOf [x, y, z])) (W.alloc (.cells #[.int .u8 (a : Int), .int .u8 (b : Int), .int .u8 (c : Int)] 5)) := by
  subst ha; subst hb; subst hc
  exact run_string_sl _ 42 5 Try.underlying42 Try.underlying5 _ 3 3 [x, y, z] rfl (build_at (n := 3) rfl rfl rfl (by simp [maxLen])) 9 Try.underlying9
theorem three_later {w W : World} {a b c : Nat} {x y z : UInt8} (ha : x.toNat = a) (hb : y.toNat = b) (hc : z.toNat = c) (hm : Mods Nil (w.alloc (.cells #[.int .u8 (a : Int), .int .u8 (b : Int), .int .u8 (c : Int)] 5)) W) :
    (convert 42 9 (.slice (some ⟨w.heap.size, 0, none⟩) 3 3)).run Try.prog W = .ok (.string (strOf [x, y, z])) W := by
  subst ha; subst hb; subst hc
  exact run_string_sl _ 42 5 Try.underlying42 Try.underlying5 _ 3 3 [x, y, z] rfl (Sl.mods (build_at (xs := bts [x, y, z]) (n := 3) rfl rfl rfl (by simp [maxLen])) hm (fun _ _ h => h)) 9 Try.underlying9
/-- A block's bytes, up to the sum, so many noughts behind the part. -/
def halfP (e pl k m : Nat) (s : List UInt8) (j : Nat) : List UInt8 := headP e pl k m s.length ++ (s ++ List.replicate j 0)
theorem halfP_length (e pl k m : Nat) (s : List UInt8) (j : Nat) : (halfP e pl k m s j).length = 11 + s.length + j := by simp [halfP, headP, fourOf]; omega
theorem halfP_next (e pl k m : Nat) (s : List UInt8) (j : Nat) : halfP e pl k m s j ++ [0] = halfP e pl k m s (j + 1) := by
  unfold halfP
  rw [List.append_assoc, List.append_assoc, List.replicate_succ']
def lenStr : Value → Nat
  | .string b => b.size
  | _ => 0
set_option maxHeartbeats 3200000 in
theorem rblock_any (w : World) {e pl k m q : Nat} {s : List UInt8} (hs : s.length = q) (hq : q ≤ 45) (he : e < 4294967296) (hpl : pl + 1 < 4294967296) :
    Calls Try.prog 26 #[.int .u64 (e : Int), .int .i64 (pl : Int), .int .i64 (k : Int), .int .i64 (m : Int), .string (strOf s)] w fun r w' => r = .returned (.string (strOf (blockP e pl k m s))) ∧ Mods Nil w w' := by
  have hsz : (strOf s).size = q := by simp [hs]
  have hwe : IntKind.u32.wrap (e : Int) = (e : Int) := by rw [IntKind.wrap_u32]; omega
  obtain ⟨p1, hp1⟩ : ∃ p1, pl + 1 = p1 := ⟨_, rfl⟩
  have hp1I : (pl : Int) + 1 = (p1 : Int) := by omega
  have hp4 : p1 < 4294967296 := by omega
  have hwp1 : IntKind.i64.wrap (p1 : Int) = (p1 : Int) := by rw [IntKind.wrap_i64]; omega
  have hwp2 : IntKind.u32.wrap (p1 : Int) = (p1 : Int) := by rw [IntKind.wrap_u32]; omega
  obtain ⟨kn, hkn⟩ : ∃ kn, (UInt8.ofNat k).toNat = kn := ⟨_, rfl⟩
  obtain ⟨mn, hmn⟩ : ∃ mn, (UInt8.ofNat m).toNat = mn := ⟨_, rfl⟩
  have hqn : (UInt8.ofNat q).toNat = q := by simp; omega
  have hwk : IntKind.u8.wrap (k : Int) = (kn : Int) := by rw [← hkn, IntKind.wrap_u8']; simp
  have hwm : IntKind.u8.wrap (m : Int) = (mn : Int) := by rw [← hmn, IntKind.wrap_u8']; simp
  have hwq : IntKind.u8.wrap (q : Int) = (q : Int) := by rw [IntKind.wrap_u8']; omega
  have k1 := fun W => three_string W hkn hmn hqn
  have k2 := fun (W : World) => three_later (w := W) hkn hmn hqn (Mods.refl Nil (W.alloc _)).drew
  obtain ⟨f1, hf1⟩ : ∃ f1, fourOf e ++ fourOf p1 = f1 := ⟨_, rfl⟩
  obtain ⟨f2, hf2⟩ : ∃ f2, f1 ++ [UInt8.ofNat k, UInt8.ofNat m, UInt8.ofNat q] = f2 := ⟨_, rfl⟩
  obtain ⟨f3, hf3⟩ : ∃ f3, f2 ++ s = f3 := ⟨_, rfl⟩
  have l1 : f1.length = 8 := by rw [← hf1]; rfl
  have l2 : f2.length = 11 := by rw [← hf2]; simp [l1]
  have a1 := fun W => string_add Try.prog (fourOf e) (fourOf p1) (by simp [fourOf]) W
  have a2 := fun W => string_add Try.prog f1 [UInt8.ofNat k, UInt8.ofNat m, UInt8.ofNat q] (by simp [l1]) W
  have a3 := fun W => string_add Try.prog f2 s (by omega) W
  rw [hf1] at a1
  rw [hf2] at a2
  rw [hf3] at a3
  have HX : Hid (f3 = halfP e pl k m s 0) := by
    show _ = _
    unfold halfP headP
    rw [hp1, hs, ← hf3, ← hf2, ← hf1]
    simp
  have HF := Lib.hid (fun W => rfour_any W e he)
  have HG := Lib.hid (fun W => rfour_any W p1 hp4)
  have HS := Lib.hid hs
  have HK := Lib.hid hkn
  have HM := Lib.hid hmn
  have HQ := Lib.hid hqn
  clear hs hkn hmn hqn hp1 hf1 hf2 hf3 l1 l2
  go_enter Try.func26, Try.ntmps26
  go_wp2_with fail
  go_cut [11] (fun s11 wx => s11 = .string (strOf f3) ∧ Mods Nil w wx)
  case first =>
    go_region_held (fun W => Mods Nil w W) (first | assumption | with_reducible exact (Mods.refl Nil w).drew | with_reducible exact Mods.alloc (by assumption) _ | with_reducible exact ((Mods.refl Nil w).alloc _).drew | with_reducible exact Mods.drew (by assumption) | with_reducible exact (Mods.alloc (by assumption) _).drew) (first
      | (go_at_call 77; with_reducible refine (HF.out _).mono ?_; rintro r w2 ⟨rfl, m2⟩; have hq2 : Mods Nil w w2 := Mods.trans (by first | assumption | with_reducible exact (Mods.refl Nil w).drew | with_reducible exact Mods.alloc (by assumption) _ | with_reducible exact ((Mods.refl Nil w).alloc _).drew | with_reducible exact Mods.drew (by assumption) | with_reducible exact (Mods.alloc (by assumption) _).drew) m2; first | (have q2 : (convert 42 9 (.slice (some ⟨w.heap.size, 0, none⟩) 3 3)).run Try.prog w2 = .ok (.string (strOf [UInt8.ofNat k, UInt8.ofNat m, UInt8.ofNat q])) w2 := three_later (w := w) HK.out HM.out HQ.out m2.of_drew) | skip)
      | (go_at_call 77; with_reducible refine (HG.out _).mono ?_; rintro r w3 ⟨rfl, m3⟩; have hq3 : Mods Nil w w3 := Mods.trans (by first | assumption | with_reducible exact (Mods.refl Nil w).drew | with_reducible exact Mods.alloc (by assumption) _ | with_reducible exact ((Mods.refl Nil w).alloc _).drew | with_reducible exact Mods.drew (by assumption) | with_reducible exact (Mods.alloc (by assumption) _).drew) m3; first | (have q3 : (convert 42 9 (.slice (some ⟨w2.heap.size, 0, none⟩) 3 3)).run Try.prog w3 = .ok (.string (strOf [UInt8.ofNat k, UInt8.ofNat m, UInt8.ofNat q])) w3 := three_later (w := w2) HK.out HM.out HQ.out m3) | (have q3 : (convert 42 9 (.slice (some ⟨w.heap.size, 0, none⟩) 3 3)).run Try.prog w3 = .ok (.string (strOf [UInt8.ofNat k, UInt8.ofNat m, UInt8.ofNat q])) w3 := three_later (w := w) HK.out HM.out HQ.out (Mods.trans m2.of_drew m3)) | skip))
    all_goals
      go_wp2_with fail
      go_meet
      exact ⟨rfl, by first | assumption | with_reducible exact Mods.alloc (by assumption) _ | with_reducible exact Mods.drew (by assumption) | with_reducible exact (Mods.alloc (by assumption) _).drew⟩
  case rest =>
  obtain ⟨rfl, hm⟩ := hcut
  have HM0 := Lib.hid hm
  obtain rfl : f3 = halfP e pl k m s 0 := HX.out
  clear k1 k2 a1 a2 a3 hm HG HX hp1I hp4 hwp1 hwp2 hwk hwm hwq
  have hq56 : (q : Int) ≤ 45 := by omega
  go_wp2_with fail
  go_loopw [11] (fun x wr => ∃ (j : Nat), j ≤ 45 - q ∧ x = .string (strOf (halfP e pl k m s j)) ∧ Mods Nil w wr) (fun x _ => 56 - lenStr x)
  case atStart => exact ⟨0, by omega, rfl, HM0.out⟩
  case round =>
    obtain ⟨j, hj, rfl, hmo⟩ := hrel
    have HMO := Lib.hid hmo
    clear hmo HM0
    have hl := halfP_length e pl k m s j
    rw [HS.out] at hl
    by_cases hlt : j < 45 - q
    · have hadd : ∀ W : World, (Op.stringOp .add (strOf (halfP e pl k m s j)) ⟨#[0]⟩).run Try.prog W = .ok (.string (strOf (halfP e pl k m s (j + 1)))) W := fun W => by
        have := string_add Try.prog (halfP e pl k m s j) [0] (by rw [hl]; simp; omega) W
        rw [halfP_next] at this
        exact this
      have hl2 := halfP_length e pl k m s (j + 1)
      rw [HS.out] at hl2
      have hsz2 : (strOf (halfP e pl k m s (j + 1))).size = 11 + q + (j + 1) := by rw [strOf_size, hl2]
      have HL2 : Hid (56 - (strOf (halfP e pl k m s (j + 1))).size < 56 - (strOf (halfP e pl k m s j)).size) := Lib.hid (by rw [hsz2, strOf_size, hl]; omega)
      obtain ⟨N, hN⟩ : ∃ N, 11 + q + j = N := ⟨_, rfl⟩
      rw [hN] at hl
      have hNI : (N : Int) < 56 := by omega
      generalize halfP e pl k m s j = A at hl hadd HL2 ⊢
      have hszA : (strOf A).size = N := by rw [strOf_size, hl]
      clear hl2 hsz2 hN hl
      go_wp2_with fail
      exact ⟨⟨j + 1, by omega, rfl, HMO.out⟩, HL2.out⟩
    · obtain rfl : j = 45 - q := by omega
      have e1 : blockP e pl k m s = sealedOf (halfP e pl k m s (45 - q)) ++ fourOf e := by unfold blockP bodyP halfP; rw [HS.out]
      have HSE := Lib.hid (fun W => rsealed_any W (halfP e pl k m s (45 - q)) (by rw [hl]; omega))
      have hadd := fun W => string_add Try.prog (sealedOf (halfP e pl k m s (45 - q))) (fourOf e) (by rw [sealedOf_length, hl]; simp [fourOf]; omega) W
      rw [← e1] at hadd
      have hN : 11 + q + (45 - q) = 56 := by omega
      rw [hN] at hl
      have hszA : (strOf (halfP e pl k m s (45 - q))).size = 56 := by rw [strOf_size, hl]
      generalize halfP e pl k m s (45 - q) = A at hszA HSE hadd ⊢
      clear e1 hl hN hj hlt
      go_wp2_with (first
        | (go_at_call 78; refine (HSE.out _).mono ?_; rintro r w4 ⟨rfl, m4⟩; have M4 := Lib.hid (HMO.out.trans m4); clear m4)
        | (go_at_call 77; refine (HF.out _).mono ?_; rintro r w5 ⟨rfl, m5⟩; have M5 := Lib.hid (M4.out.trans m5); clear m5))
      go_ret
      exact ⟨rfl, M5.out⟩
end Go.Proofs.Ytdllgmhipenidaa
