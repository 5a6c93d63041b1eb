/- The reference of layer 10: what a call tells, as it is (all). -/
import Derived.Test.YtcncgjiaefjmhaaRef10c
namespace Go.Proofs.Ytcncgjiaefjmhaa
set_option maxRecDepth 100000
open Go.RowKit
set_option linter.unusedVariables false
set_option linter.unusedSimpArgs false

theorem r10all_any (w : World) (B : List UInt8) (E : Int) (A : Option Addr) (n c : Nat) :
    Calls Try.prog 26 #[refOf B E, .slice A n c] w fun e w' => e = .returned (.tuple #[refOf B E, .slice A n c]) ∧ Mods Nil w w' := by
  unfold refOf
  obtain ⟨bA, bB⟩ := two_boxes (Mods.refl Nil ((w.alloc (.cells #[.string (strOf B), .int .i64 E] 61)).alloc (.cells #[.string ⟨#[]⟩, .int .i64 0] 61)))
  obtain ⟨a0, a1, a2, a3⟩ := bA.two
  obtain ⟨b0, b1, b2, b3⟩ := bB.two
  have bC := set_one bB (.string (strOf B)) (.int .i64 E)
  obtain ⟨c0, c1, c2, c3⟩ := bC.two
  have HMM : Hid (Mods Nil w ((w.alloc (.cells #[.string (strOf B), .int .i64 E] 61)).alloc (.cells #[.string ⟨#[]⟩, .int .i64 0] 61))) := Lib.hid (((Mods.refl Nil w).alloc _).alloc _)
  obtain ⟨w2, hw2⟩ : ∃ w2, ((w.alloc (.cells #[.string (strOf B), .int .i64 E] 61)).alloc (.cells #[.string ⟨#[]⟩, .int .i64 0] 61)) = w2 := ⟨_, rfl⟩
  rw [hw2] at HMM a0 a1 a2 a3 b0 b1 b2 b3 c0 c1 c2 c3
  clear bA bB bC
  go_enter Try.func26, Try.ntmps26
  go_wp2_with fail
  exact bodyPost_ret (v := .tuple #[.agg #[.string (strOf B), .int .i64 E], .slice A n c]) (by simp [results, Try.results26, go_sem, c0, c1]) rfl ⟨rfl, (HMM.out.setNew (by simp) _).setNew (by simp) _⟩
end Go.Proofs.Ytcncgjiaefjmhaa
