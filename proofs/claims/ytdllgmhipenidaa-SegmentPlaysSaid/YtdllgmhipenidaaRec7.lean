/- Layer 7's statements: a record out of an action. -/
import Derived.Test.YtdllgmhipenidaaHelp7b
namespace Go.Proofs.Ytdllgmhipenidaa
set_option maxRecDepth 100000
open Go.RowKit
set_option linter.unusedVariables false

def repX (xs : List UInt8) : Nat → List UInt8
  | 0 => []
  | j + 1 => repX xs j ++ xs
def recX (long : Bool) (xs : List UInt8) : List UInt8 := if long then repX xs 7 else xs
theorem repX_length (xs : List UInt8) : ∀ j, (repX xs j).length = j * xs.length
  | 0 => by simp [repX]
  | j + 1 => by simp only [repX, List.length_append, repX_length xs j, Nat.add_mul, Nat.one_mul]
theorem bts_app (xs ys : List UInt8) : bts xs ++ bts ys = bts (xs ++ ys) := by simp [bts]
set_option maxHeartbeats 3200000 in
theorem record_any (w : World) {base : Nat} {kd nn : Int} {A : Option Addr} {c n : Nat} {xs : List UInt8} (hn : xs.length = n) (hs : Sb base w A c xs) (h60 : n ≤ 60) (long : Bool) :
    Calls Try.prog 18 #[.agg #[.int .i64 kd, .int .i64 nn, .slice A n c, .bool long]] w fun e w' => ∃ A' c' m, e = .returned (.slice A' m c') ∧ (recX long xs).length = m ∧ m ≤ 420 ∧ Sb base w' A' c' (recX long xs) ∧ Mods Nil w w' := by
  have M1 := (Mods.refl Nil w).alloc (.cells #[.int .i64 kd, .int .i64 nn, .slice A n c, .bool long] 44)
  cases long with
  | false =>
    have HS := Lib.hid (hs.nil M1)
    have HM := Lib.hid M1
    have HN := Lib.hid hn
    clear hs M1 hn
    go_enter Try.func18, Try.ntmps18
    go_wp2
    go_ret
    exact ⟨A, c, n, rfl, HN.out, by omega, HS.out, HM.out⟩
  | true =>
    obtain ⟨i0, hi0, hz0, hz1, hz2⟩ := info_parts infoByte
    have HS := Lib.hid hs.1
    have HM := Lib.hid M1
    have HN := Lib.hid hn
    have hb := Blk.new w 44 #[.int .i64 kd, .int .i64 nn, .slice A n c, .bool true]
    have HB := Lib.hid hb
    clear hs M1 hn hb
    go_enter Try.func18, Try.ntmps18
    go_wp2
    go_loopw [3, 4] (fun v x wr => ∃ (j k : Nat), j ≤ 7 ∧ x = .int .i64 (j : Int) ∧ k = j * n ∧ wr.ownsRow w.heap.size 5 1 v k (bts (repX xs j)) ∧ Blk wr w.heap.size 44 #[.int .i64 kd, .int .i64 nn, .slice A n c, .bool true] ∧ Mods Nil w wr) (fun _ x _ => 7 - (intOf x).toNat)
    case atStart => exact ⟨0, 0, Nat.zero_le _, rfl, by simp, World.ownsRow_nil _ _ _ _, HB.out, HM.out⟩
    case round =>
      obtain ⟨j, k, hj, rfl, hk, ho, hb, hmo⟩ := hrel
      have HO := Lib.hid ho
      have HBJ := Lib.hid hb
      have HMO := Lib.hid hmo
      have HK := Lib.hid hk
      have c2 : wr.cell? ⟨w.heap.size, 2, none⟩ = some (.slice A n c) := by simpa using hb.cell 2
      have hk420 : k ≤ 420 := by
        rw [hk]
        calc j * n ≤ 7 * 60 := Nat.mul_le_mul hj h60
          _ = 420 := rfl
      clear ho hb hmo hk
      by_cases hlt : j < 7
      · have hltI : (j : Int) < 7 := by omega
        have hw : IntKind.i64.wrap ((j : Int) + 1) = (j : Int) + 1 := by rw [IntKind.wrap_i64]; omega
        go_wp2_with (at_builtin; refine wpList_append_sl _ rfl _ _ 42 rfl w.heap.size 5 i0 (.int .u8 0) 1 Try.underlying42 hi0 hz0 hz1 hz2 rfl _ k (bts (repX xs j)) rfl HO.out A n c (bts xs) rfl (by rw [bts_length]; exact HN.out) (HS.out.mods HMO.out (fun _ _ h => h)) (by simp [bts]; intro a _; rfl) (by omega) (by unfold maxLen; omega) HMO.out.size ?_; intro v' w' own' g' b'; rw [bts_app] at own'; have O2 := Lib.hid own'; have G2 : Mods (fun i => ∃ cs, Blk wr i 5 cs ∧ w.heap.size ≤ i) wr w' := (Mods.refl _ wr).grown g' (fun i hi _ => by obtain ⟨h1, cs, h2⟩ := own_kind HO.out i hi; exact ⟨cs, h2, h1⟩); have B2 := Lib.hid (HBJ.out.mods G2 (fun h => by obtain ⟨cs, h1, -⟩ := h; exact absurd (blk_typ h1 HBJ.out) (by decide))); have M2 := Lib.hid (HMO.out.nil_trans G2 (fun i hi => by obtain ⟨_, _, h⟩ := hi; exact h)); clear own' g' b' G2)
        exact ⟨⟨j + 1, k + n, by omega, by go_num, by rw [HK.out, Nat.add_mul, Nat.one_mul], O2.out, B2.out, M2.out⟩, by simp [intOf]; omega⟩
      · obtain rfl : j = 7 := by omega
        go_wp2_with fail
        obtain ⟨A', c', rfl, e, hr⟩ := rb_of_own HO.out
        go_ret
        exact ⟨A', c', k, rfl, e.symm, hk420, hr.toSb, HMO.out⟩
end Go.Proofs.Ytdllgmhipenidaa
