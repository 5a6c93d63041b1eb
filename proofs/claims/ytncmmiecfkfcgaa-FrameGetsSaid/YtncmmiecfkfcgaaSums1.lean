/- Package sums: a bit more, the table, a byte more. -/
import Derived.Test.YtncmmiecfkfcgaaGen
import Derived.Test.YtncmmiecfkfcgaaCrc
import Derived.Laws.BitsAllLaws
namespace Go.Proofs.Ytncmmiecfkfcgaa
open Go.RowKit

theorem bitMore_any (x : Nat) (hx : x < 4294967296) (w : World) : Calls Try.prog 44 #[.int .u32 x] w fun e w' => e = .returned (.int .u32 (bit1 x : Nat)) ∧ w = w' := by
  rcases Nat.mod_two_eq_zero_or_one x with h | h
  · have e : ((bit1 x : Nat) : Int) = (x / 2 : Nat) := by rw [bit1_even h]
    have HE := Lib.hid e
    clear e
    have h2 : (x : Int) % 2 = 0 := by omega
    go_enter Try.func44, Try.ntmps44
    go_wp2_with fail
    --DBG
    go_ret
    exact ⟨by rw [HE.out]; rfl, rfl⟩
  · have e : ((bit1 x : Nat) : Int) = bits .xor .u32 ((x / 2 : Nat) : Int) 2197175160 := by
      rw [bit1_odd h, show (2197175160 : Int) = ((2197175160 : Nat) : Int) from rfl, u32_xor_nat _ _ (by omega) (by omega)]
    have HE := Lib.hid e
    clear e
    have h2 : (x : Int) % 2 = 1 := by omega
    go_enter Try.func44, Try.ntmps44
    go_wp2_with fail
    --DBG
    go_ret
    exact ⟨by rw [HE.out]; rfl, rfl⟩
end Go.Proofs.Ytncmmiecfkfcgaa
