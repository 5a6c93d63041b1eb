/- Layer 2's statements: what each of them begins with. -/
import Derived.Test.YtmmegninbopdlaaSums7
import Derived.Test.YtmmegninbopdlaaGen2
namespace Go.Proofs.Ytmmegninbopdlaa
open Go.RowKit
set_option linter.unusedVariables false

theorem sumOf_nine : sumOf [49, 50, 51, 52, 53, 54, 55, 56, 57] = 3808858755 := by decide +kernel
theorem right_sealed_x : rightOf (sealedOf [120]) = true := by decide +kernel
theorem right_abcd : rightOf [97, 98, 99, 100] = false := by decide +kernel

set_option maxHeartbeats 1600000 in
theorem awake_any (w : World) : Calls Try.prog 8 #[] w fun e w' => e = .returned (.bool true) ∧ Mods Nil w w' := by
  have R1 := Lib.hid sumOf_nine
  have R2 := Lib.hid right_sealed_x
  have R3 := Lib.hid right_abcd
  have RR := fun (w : World) => (show Sl ((w.alloc (.cells #[.int .u8 49, .int .u8 50, .int .u8 51, .int .u8 52] 5 (4, 5))).alloc (.cells #[.int .u8 53, .int .u8 54, .int .u8 55, .int .u8 56, .int .u8 57] 5 (5, 6))) (some ⟨w.heap.size, 0, none⟩) 4 (bts [49, 50, 51, 52]) from (build_at (n := 4) rfl rfl rfl (by unfold maxLen; omega)).alloc _)
  have RS := fun (w : World) => (show Sl ((w.alloc (.cells #[.int .u8 49, .int .u8 50, .int .u8 51, .int .u8 52] 5 (4, 5))).alloc (.cells #[.int .u8 53, .int .u8 54, .int .u8 55, .int .u8 56, .int .u8 57] 5 (5, 6))) (some ⟨w.heap.size + 1, 0, none⟩) 5 (bts [53, 54, 55, 56, 57]) from build_at (n := 5) (by simp) rfl rfl (by unfold maxLen; omega))
  have RR' := Lib.hid RR
  have RS' := Lib.hid RS
  clear RR RS
  have kc := fun (w : World) (C : Array Value) (n c : Nat) => Lib.run_convert_bytes_const (P := Try.prog) w 23 5 C n c Try.underlying23 Try.underlying5
  have kc2 := kc (w.alloc (.cells #[.int .u8 49, .int .u8 50, .int .u8 51, .int .u8 52] 5 (4, 5))) #[.int .u8 53, .int .u8 54, .int .u8 55, .int .u8 56, .int .u8 57] 5 5
  simp at kc2
  go_enter Try.func8, Try.ntmps8
  go_wp2_with (first
    | (go_at_call 9; (refine (of_any (l := [⟨some ⟨w.heap.size, 0, none⟩, 4, [49, 50, 51, 52]⟩, ⟨some ⟨w.heap.size + 1, 0, none⟩, 5, [53, 54, 55, 56, 57]⟩]) rfl (build_at (n := 2) (by simp) rfl rfl (by unfold maxLen; omega)) (by intro r hr; simp only [List.mem_cons, List.not_mem_nil, or_false] at hr; rcases hr with rfl | rfl; exact (RR'.out w).alloc _; exact (RS'.out w).alloc _)).mono ?_; rintro e w1 ⟨he, m1⟩; have he' : e = .returned (.int .u32 3808858755) := (by rw [he, show flat [⟨some ⟨w.heap.size, 0, none⟩, 4, [49, 50, 51, 52]⟩, ⟨some ⟨w.heap.size + 1, 0, none⟩, 5, [53, 54, 55, 56, 57]⟩] = [49, 50, 51, 52, 53, 54, 55, 56, 57] from rfl, R1.out]; rfl); subst he'; have M1 := Lib.hid (((((Mods.refl Nil w).alloc _).alloc _).alloc _).trans m1); clear he m1))
    | (go_at_call 11; (refine (sealed_any (n := 1) (xs := [120]) rfl (by omega) (build_at (n := 1) rfl rfl rfl (by unfold maxLen; omega))).mono ?_; rintro e w2 ⟨v2, rfl, o2, m2⟩; obtain ⟨A2, c2, rfl, e2, s2, b2⟩ := own_slice o2; have S2 := Lib.hid s2; have M2 := Lib.hid ((M1.out.alloc _).trans m2); clear o2 e2 s2 b2 m2))
    | (go_at_call_of 13 (Value.slice A2 5 c2); refine (right_any (n := 5) (xs := sealedOf [120]) rfl S2.out).mono ?_; rintro e w3 ⟨he, m3⟩; rw [R2.out] at he; subst he; have M3 := Lib.hid (M2.out.trans m3); clear m3)
    | (go_at_call 13; (refine (right_any (n := 4) (xs := [97, 98, 99, 100]) rfl (build_at (n := 4) rfl rfl rfl (by unfold maxLen; omega))).mono ?_; rintro e w4 ⟨he, m4⟩; rw [R3.out] at he; subst he; have M4 := Lib.hid ((M3.out.alloc _).trans m4); clear m4)))
  go_ret
  exact ⟨rfl, M4.out⟩
end Go.Proofs.Ytmmegninbopdlaa
