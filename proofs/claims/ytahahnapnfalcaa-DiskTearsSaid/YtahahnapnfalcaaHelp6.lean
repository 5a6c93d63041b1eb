/- Small helps of the walks of layer 6. -/
import Derived.Test.YtahahnapnfalcaaAwake06
import Derived.Test.YtahahnapnfalcaaOpen
import Derived.Deep.QuietTactic
import Derived.BigQuiet
namespace Go.Proofs.Ytahahnapnfalcaa
set_option maxRecDepth 100000
open Go.RowKit
set_option linter.unusedVariables false

theorem size_byte (W : World) : (sizeOf (Try.prog.elem 34)).run Try.prog W = .ok 1 W := rfl
theorem slice_from {w : World} {A : Option Addr} {n c k : Nat} {xs : List UInt8} (hs : Sl w A c (bts xs)) (hn : xs.length = n) (hk : k ≤ n) :
    ∃ A' c', (∀ W : World, (Instr.slice 34 (.slice A n c) (some (.int .i64 (k : Int))) none none).run Try.prog W = .ok (.slice A' (n - k) c') W) ∧ Sl w A' c' (bts (xs.drop k)) := by
  refine ⟨_, _, fun W => ?_, by rw [← bts_drop]; exact hs.cut (k := k) (by simp; omega)⟩
  rw [run_slice_l (P := Try.prog) W _ A n c (by exact Try.underlying34) .i64 (k : Int) (by omega) (by omega)]
  rw [size_byte]
  simp [Result.andThen, sliced]
theorem slice_front {w : World} {A : Option Addr} {n c k : Nat} {xs : List UInt8} (hs : Sl w A c (bts xs)) (hn : xs.length = n) (hk : k ≤ n) :
    ∃ A' c', (∀ W : World, (Instr.slice 34 (.slice A n c) none (some (.int .i64 (k : Int))) none).run Try.prog W = .ok (.slice A' k c') W) ∧ Sl w A' c' (bts (xs.take k)) := by
  have hle := hs.le
  rw [bts_length, hn] at hle
  cases A with
  | none =>
    obtain ⟨rfl, hx⟩ := hs.of_nil
    obtain rfl : k = 0 := by omega
    refine ⟨none, 0, fun W => ?_, by rw [List.take_zero]; exact Sl.none_ _⟩
    rw [run_slice_h (P := Try.prog) W _ none n 0 (by exact Try.underlying34) .i64 ((0 : Nat) : Int) (by omega) (by omega)]
    rw [size_byte]
    simp [Result.andThen, sliced]
  | some a =>
    refine ⟨some a, c, fun W => ?_, by rw [← bts_take]; exact hs.take k⟩
    rw [run_slice_h (P := Try.prog) W _ (some a) n c (by exact Try.underlying34) .i64 (k : Int) (by omega) (by omega)]
    rw [size_byte]
    simp [Result.andThen, sliced]
    intro _
    obtain ⟨b, off, s⟩ := a
    unfold Addr.add
    split <;> simp_all
/-- []byte{n}: what a crash picks. -/
theorem pick_one (W : World) (base : Nat) (p : UInt8) : Bs base (W.alloc (.cells #[.int .u8 (p.toNat : Int)] 5)) (some ⟨W.heap.size, 0, none⟩) 1 [p] := by
  have := Bs.of_blk (base := base) (n := 1) (ys := [p]) (Blk.new W 5 #[.int .u8 (p.toNat : Int)]) rfl (by simp [maxLen]) 1
  exact this
theorem u8_as {z : Int} (h : (Lit.int .u8 z).wf = true) : ∃ p : UInt8, z = (p.toNat : Int) := by
  have := u8_of_wf h
  exact ⟨UInt8.ofNat z.toNat, by simp; omega⟩
theorem rem65 (p : UInt8) : Int.tmod (p.toNat : Int) 65 = ((p.toNat % 65 : Nat) : Int) := by rw [Int.tmod_eq_emod_of_nonneg (by omega)]; omega
end Go.Proofs.Ytahahnapnfalcaa
