/- The reference of layer 8: Block. -/
import Derived.Test.YtdllgmhipenidaaRef08a
namespace Go.Proofs.Ytdllgmhipenidaa
set_option maxRecDepth 100000
open Go.RowKit
set_option linter.unusedVariables false

theorem one8_string (W : World) {a : Nat} {x : UInt8} (ha : x.toNat = a) :
    (convert 42 9 (.slice (some ⟨W.heap.size, 0, none⟩) 1 1)).run Try.prog (W.alloc (.cells #[.int .u8 (a : Int)] 5)) = .ok (.string (strOf [x])) (W.alloc (.cells #[.int .u8 (a : Int)] 5)) := by
  subst ha
  exact run_string_sl _ 42 5 Try.underlying42 Try.underlying5 _ 1 1 [x] rfl (build_at (n := 1) rfl rfl rfl (by simp [maxLen])) 9 Try.underlying9
theorem one8_later {w W : World} {a : Nat} {x : UInt8} (ha : x.toNat = a) (hm : Mods Nil (w.alloc (.cells #[.int .u8 (a : Int)] 5)) W) :
    (convert 42 9 (.slice (some ⟨w.heap.size, 0, none⟩) 1 1)).run Try.prog W = .ok (.string (strOf [x])) W := by
  subst ha
  exact run_string_sl _ 42 5 Try.underlying42 Try.underlying5 _ 1 1 [x] rfl (Sl.mods (build_at (xs := bts [x]) (n := 1) rfl rfl rfl (by simp [maxLen])) hm (fun _ _ h => h)) 9 Try.underlying9
def lenStr8 : Value → Nat
  | .string b => b.size
  | _ => 0
/-- A block's bytes up to the sum, so many noughts behind the data. -/
def halfC (t : Nat) (s : List UInt8) (j : Nat) : List UInt8 := eight t ++ [UInt8.ofNat s.length] ++ (s ++ List.replicate j 0)
theorem halfC_length (t : Nat) (s : List UInt8) (j : Nat) : (halfC t s j).length = 9 + s.length + j := by simp [halfC, eight]; omega
theorem halfC_next (t : Nat) (s : List UInt8) (j : Nat) : halfC t s j ++ [0] = halfC t s (j + 1) := by
  simp [halfC, List.replicate_succ']
set_option maxHeartbeats 3200000 in
theorem r8block_any (w : World) {t q : Nat} {s : List UInt8} (hs : s.length = q) (hq : q ≤ 43) (ht : t < 18446744073709551616) :
    Calls Try.prog 38 #[.int .u64 (t : Int), .string (strOf s)] w fun r w' => r = .returned (.string (strOf (layC t s))) ∧ Mods Nil w w' := by
  have hsz : (strOf s).size = q := by simp [hs]
  have hqn : (UInt8.ofNat q).toNat = q := by simp; omega
  have hwq : IntKind.u8.wrap (q : Int) = (q : Int) := by rw [IntKind.wrap_u8']; omega
  have k1 := fun W => one8_string W hqn
  have k2 := fun (W : World) => one8_later (w := W) hqn (Mods.refl Nil (W.alloc _)).drew
  obtain ⟨f2, hf2⟩ : ∃ f2, eight t ++ [UInt8.ofNat q] = f2 := ⟨_, rfl⟩
  obtain ⟨f3, hf3⟩ : ∃ f3, f2 ++ s = f3 := ⟨_, rfl⟩
  have l2 : f2.length = 9 := by rw [← hf2]; simp [eight]
  have a2 := fun W => string_add Try.prog (eight t) [UInt8.ofNat q] (by simp [eight]) W
  have a3 := fun W => string_add Try.prog f2 s (by omega) W
  rw [hf2] at a2
  rw [hf3] at a3
  have HX : Hid (f3 = halfC t s 0) := by
    show _ = _
    unfold halfC
    rw [hs, ← hf3, ← hf2]
    simp
  have HE := Lib.hid (fun W => r8eight_any W ht)
  have HS := Lib.hid hs
  have HQ := Lib.hid hqn
  clear hs hqn hf2 hf3 l2 ht
  go_enter Try.func38, Try.ntmps38
  go_wp2_with fail
  go_cut [5] (fun s5 wx => s5 = .string (strOf f3) ∧ Mods Nil w wx)
  case first =>
    go_region_held (fun W => Mods Nil w W) (first | assumption | with_reducible exact (Mods.refl Nil w).drew | with_reducible exact Mods.alloc (by assumption) _ | with_reducible exact ((Mods.refl Nil w).alloc _).drew | with_reducible exact Mods.drew (by assumption) | with_reducible exact (Mods.alloc (by assumption) _).drew) (first
      | (go_at_call 99; with_reducible refine (HE.out _).mono ?_; rintro r w2 ⟨rfl, m2⟩; have hq2 : Mods Nil w w2 := Mods.trans (by first | assumption | with_reducible exact (Mods.refl Nil w).drew | with_reducible exact Mods.alloc (by assumption) _ | with_reducible exact ((Mods.refl Nil w).alloc _).drew | with_reducible exact Mods.drew (by assumption) | with_reducible exact (Mods.alloc (by assumption) _).drew) m2; first | (have q2 : (convert 42 9 (.slice (some ⟨w.heap.size, 0, none⟩) 1 1)).run Try.prog w2 = .ok (.string (strOf [UInt8.ofNat q])) w2 := one8_later (w := w) HQ.out m2.of_drew) | skip))
    all_goals
      go_wp2_with fail
      go_meet
      exact ⟨rfl, by first | assumption | with_reducible exact Mods.alloc (by assumption) _ | with_reducible exact Mods.drew (by assumption) | with_reducible exact (Mods.alloc (by assumption) _).drew⟩
  case rest =>
  obtain ⟨rfl, hm⟩ := hcut
  have HM0 := Lib.hid hm
  obtain rfl : f3 = halfC t s 0 := HX.out
  clear k1 k2 a2 a3 hm HX hwq
  have hq43 : (q : Int) ≤ 43 := by omega
  go_wp2_with fail
  go_loopw [5] (fun x wr => ∃ (j : Nat), j ≤ 43 - q ∧ x = .string (strOf (halfC t s j)) ∧ Mods Nil w wr) (fun x _ => 52 - lenStr8 x)
  case atStart => exact ⟨0, by omega, rfl, HM0.out⟩
  case round =>
    obtain ⟨j, hj, rfl, hmo⟩ := hrel
    have HMO := Lib.hid hmo
    clear hmo HM0
    have hl := halfC_length t s j
    rw [HS.out] at hl
    by_cases hlt : j < 43 - q
    · have hadd : ∀ W : World, (Op.stringOp .add (strOf (halfC t s j)) ⟨#[0]⟩).run Try.prog W = .ok (.string (strOf (halfC t s (j + 1)))) W := fun W => by
        have := string_add Try.prog (halfC t s j) [0] (by rw [hl]; simp; omega) W
        rw [halfC_next] at this
        exact this
      have hl2 := halfC_length t s (j + 1)
      rw [HS.out] at hl2
      have hsz2 : (strOf (halfC t s (j + 1))).size = 9 + q + (j + 1) := by rw [strOf_size, hl2]
      have HL2 : Hid (52 - (strOf (halfC t s (j + 1))).size < 52 - (strOf (halfC t s j)).size) := Lib.hid (by rw [hsz2, strOf_size, hl]; omega)
      obtain ⟨N, hN⟩ : ∃ N, 9 + q + j = N := ⟨_, rfl⟩
      rw [hN] at hl
      have hNI : (N : Int) < 52 := by omega
      generalize halfC t s j = A at hl hadd HL2 ⊢
      have hszA : (strOf A).size = N := by rw [strOf_size, hl]
      clear hl2 hsz2 hN hl
      go_wp2_with fail
      exact ⟨⟨j + 1, by omega, rfl, HMO.out⟩, HL2.out⟩
    · obtain rfl : j = 43 - q := by omega
      have e1 : layC t s = sealedOf (halfC t s (43 - q)) ++ eight t := by unfold layC headC halfC; rw [HS.out]
      have HSE := Lib.hid (fun W => rsealed_any W (halfC t s (43 - q)) (by rw [hl]; omega))
      have hadd := fun W => string_add Try.prog (sealedOf (halfC t s (43 - q))) (eight t) (by rw [sealedOf_length, hl]; simp [eight]; omega) W
      rw [← e1] at hadd
      have hN : 9 + q + (43 - q) = 52 := by omega
      rw [hN] at hl
      have hszA : (strOf (halfC t s (43 - q))).size = 52 := by rw [strOf_size, hl]
      generalize halfC t s (43 - q) = A at hszA HSE hadd ⊢
      clear e1 hl hN hj hlt
      go_wp2_with (first
        | (go_at_call 78; refine (HSE.out _).mono ?_; rintro r w4 ⟨rfl, m4⟩; have M4 := Lib.hid (HMO.out.trans m4); clear m4)
        | (go_at_call 99; refine (HE.out _).mono ?_; rintro r w5 ⟨rfl, m5⟩; have M5 := Lib.hid (M4.out.trans m5); clear m5))
      go_ret
      exact ⟨rfl, M5.out⟩
end Go.Proofs.Ytdllgmhipenidaa
