/- The reference of layer 3: a frame's text. -/
import Derived.Test.YtncmmiecfkfcgaaRef1
import Derived.Test.YtncmmiecfkfcgaaRef02
import Derived.Test.YtncmmiecfkfcgaaFrame0
import Derived.Deep.RegionHeld
namespace Go.Proofs.Ytncmmiecfkfcgaa
open Go.RowKit
set_option linter.unusedVariables false

set_option maxRecDepth 100000 in
set_option maxHeartbeats 6400000 in
theorem r3put_any (w : World) (k : UInt8) (body : List UInt8) (h6 : body.length ≤ 65535) :
    Calls Try.prog 15 #[.agg #[.int .u8 (k.toNat : Int), .string (strOf body)]] w fun e w' => e = .returned (.tuple #[.string (strOf (frameOf k body)), .int .i64 0]) ∧ Mods Nil w w' := by
  obtain ⟨n, hn⟩ : ∃ n, body.length = n := ⟨_, rfl⟩
  have hsz : (strOf body).size = n := by simp [hn]
  have hb : (n : Int) ≤ 65535 := by omega
  have hn0 : (0 : Int) ≤ (n : Int) := by omega
  have hwr : IntKind.u64.wrap (n : Int) = (n : Int) := by rw [IntKind.wrap_u64]; omega
  have hl9 := putU_length n (by omega)
  obtain ⟨w0, hw0⟩ : ∃ w0, w.alloc (.cells #[.int .u8 (k.toNat : Int), .string (strOf body)] 30) = w0 := ⟨_, rfl⟩
  have hB := Blk.new w 30 #[.int .u8 (k.toNat : Int), .string (strOf body)]
  rw [hw0] at hB
  have m0 : Mods Nil w w0 := by rw [← hw0]; exact (Mods.refl _ _).alloc _
  have hc0 : ∀ W : World, Mods Nil w0 W → W.cell? ⟨w.heap.size, 0, none⟩ = some (.int .u8 (k.toNat : Int)) := fun W h => (hB.mods h (fun h => h)).two.1
  have hc1 : ∀ W : World, Mods Nil w0 W → W.cell? ⟨w.heap.size, 1, none⟩ = some (.string (strOf body)) := fun W h => (hB.mods h (fun h => h)).two.2.1
  have d0 := hc0 w0 (Mods.refl _ _)
  have d1 := hc1 w0 (Mods.refl _ _)
  have hadd1 := fun W => string_add Try.prog (putU n) [k] (by simp; omega) W
  have hadd2 := fun W => string_add Try.prog (putU n ++ [k]) body (by simp; omega) W
  have HF : Hid (frameOf k body = sealedOf (putU n ++ k :: body)) := by show _ = _; unfold frameOf; rw [hn]; simp
  have k1 := fun W => one_string W (k.toNat : Int) k rfl (0, 0)
  have k2 := fun (W : World) => one_string_later (w := W) (k.toNat : Int) k rfl (0, 0) (Mods.refl Nil (W.alloc _)).drew
  have HL := Lib.hid (show (putU n ++ k :: body).length ≤ 140737488355328 by simp; omega)
  have M0 := Lib.hid m0
  have HW0 := Lib.hid hw0
  clear hn hl9 h6 hB m0
  go_enter Try.func15, Try.ntmps15
  have hw1 := HW0.out
  go_wp2_with fail
  clear hw1
  go_region_held (fun W => Mods Nil w0 W) (first | exact (Mods.refl Nil w0).drew | assumption | exact Mods.alloc (by assumption) _ | exact Mods.alloc (Mods.refl Nil w0).drew _ | exact (Mods.alloc (Mods.refl Nil w0) _).drew) (first
    | (go_at_call 27; refine (ruint_any n (by omega) _).mono ?_; rintro e w2 ⟨rfl, m2⟩; have hq2 : Mods Nil w0 w2 := Mods.trans (by first | exact (Mods.refl Nil w0).drew | assumption | exact Mods.alloc (by assumption) _ | exact Mods.alloc (Mods.refl Nil w0).drew _ | exact (Mods.alloc (Mods.refl Nil w0) _).drew) m2; first | (have q2 : (convert 22 9 (.slice (some ⟨w0.heap.size, 0, none⟩) 1 1)).run Try.prog w2 = .ok (.string (strOf [k])) w2 := one_string_later (w := w0.drew) _ _ rfl (0, 0) m2) | (have q2 : (convert 22 9 (.slice (some ⟨w0.heap.size, 0, none⟩) 1 1)).run Try.prog w2 = .ok (.string (strOf [k])) w2 := one_string_later (w := w0) _ _ rfl (0, 0) m2.of_drew) | skip; clear m2)
    | (go_at_call 26; refine (rsealed_any _ (putU n ++ k :: body) HL.out).mono ?_; rintro e w3 ⟨rfl, m3⟩; have hq3 : Mods Nil w0 w3 := Mods.trans (by first | assumption | exact Mods.alloc (by assumption) _) m3; clear m3))
  all_goals
    go_wp2
    go_ret2
    rw [HF.out]
    exact ⟨rfl, M0.out.trans (by assumption)⟩
end Go.Proofs.Ytncmmiecfkfcgaa
