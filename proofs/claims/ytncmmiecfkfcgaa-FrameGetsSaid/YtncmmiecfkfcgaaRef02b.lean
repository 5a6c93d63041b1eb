/- The reference of layer 2: what is right. -/
import Derived.Test.YtncmmiecfkfcgaaRef02
import Derived.Test.YtncmmiecfkfcgaaCrc2
namespace Go.Proofs.Ytncmmiecfkfcgaa
open Go.RowKit
set_option linter.unusedVariables false

theorem rright_any (w : World) (xs : List UInt8) (hl : xs.length ≤ 140737488355328) : Calls Try.prog 19 #[.string (strOf xs)] w fun e w' => e = .returned (.bool (rightOf xs)) ∧ Mods Nil w w' := by
  obtain ⟨n, hn⟩ : ∃ n, xs.length = n := ⟨_, rfl⟩
  have hsz : (strOf xs).size = n := by simp [hn]
  by_cases h4 : n < 4
  · rw [rightOf_short (by omega)]
    have hd1 : decide ((4 : Int) ≤ (n : Int)) = false := by simp; omega
    have h4I : (n : Int) < 4 := by omega
    clear hl hn h4
    go_enter Try.func19, Try.ntmps19
    go_wp2_with fail
    go_ret
    exact ⟨rfl, Mods.refl _ _⟩
  · have h4I : (4 : Int) ≤ (n : Int) := by omega
    have hr : rightOf xs = (sealedOf (xs.take (n - 4)) == xs) := by
      unfold rightOf
      rw [hn, Bool.eq_iff_iff]
      simp
      intro _
      omega
    obtain ⟨ys, hys⟩ : ∃ ys, xs.take (n - 4) = ys := ⟨_, rfl⟩
    have hex : (strOf xs).extract 0 (n - 4) = strOf ys := by rw [strOf_extract, ← hys]; simp
    have hyl : ys.length ≤ 140737488355328 := by rw [← hys]; simp; omega
    rw [hys] at hr
    rw [hr]
    have e1 := strOf_toList xs
    have e2 := strOf_toList (sealedOf ys)
    have h5 : ((n : Int) - 4).toNat = n - 4 := by omega
    have HYL := Lib.hid hyl
    have hn63 : n ≤ 140737488355328 := by omega
    clear hl hn hys hr hyl
    go_enter Try.func19, Try.ntmps19
    go_wp2_with (first | (go_at_call 26; (refine (rsealed_any _ ys HYL.out).mono ?_; rintro e w1 ⟨rfl, m1⟩; have M1 := Lib.hid m1; clear m1)))
    go_ret
    exact ⟨rfl, M1.out⟩
end Go.Proofs.Ytncmmiecfkfcgaa
