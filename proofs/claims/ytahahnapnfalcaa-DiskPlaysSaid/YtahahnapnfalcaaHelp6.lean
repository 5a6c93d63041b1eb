/- Small helps of the walks of layer 6. -/
import Derived.Test.YtahahnapnfalcaaAwake06
import Derived.Test.YtahahnapnfalcaaOpen
import Derived.Test.YtahahnapnfalcaaInRows
import Derived.Deep.QuietTactic
import Derived.BigQuiet
import Derived.Laws.BitsAllLaws
namespace Go.Proofs.Ytahahnapnfalcaa
set_option maxRecDepth 100000
open Go.RowKit
set_option linter.unusedVariables false

theorem size_byte (W : World) : (sizeOf (Try.prog.elem 34)).run Try.prog W = .ok 1 W := rfl
theorem slice_from {w : World} {A : Option Addr} {n c k : Nat} {xs : List UInt8} (hs : Sl w A c (bts xs)) (hn : xs.length = n) (hk : k ≤ n) :
    ∃ A' c', (∀ W : World, (Instr.slice 34 (.slice A n c) (some (.int .i64 (k : Int))) none none).run Try.prog W = .ok (.slice A' (n - k) c') W) ∧ Sl w A' c' (bts (xs.drop k)) := by
  refine ⟨_, _, fun W => ?_, by rw [← bts_drop]; exact hs.cut (k := k) (by simp; omega)⟩
  rw [run_slice_l (P := Try.prog) W _ A n c (by exact Try.underlying34) .i64 (k : Int) (by omega) (by omega)]
  rw [size_byte]
  simp [Result.andThen, sliced]
theorem slice_front {w : World} {A : Option Addr} {n c k : Nat} {xs : List UInt8} (hs : Sl w A c (bts xs)) (hn : xs.length = n) (hk : k ≤ n) :
    ∃ A' c', (∀ W : World, (Instr.slice 34 (.slice A n c) none (some (.int .i64 (k : Int))) none).run Try.prog W = .ok (.slice A' k c') W) ∧ Sl w A' c' (bts (xs.take k)) := by
  have hle := hs.le
  rw [bts_length, hn] at hle
  cases A with
  | none =>
    obtain ⟨rfl, hx⟩ := hs.of_nil
    obtain rfl : k = 0 := by omega
    refine ⟨none, 0, fun W => ?_, by rw [List.take_zero]; exact Sl.none_ _⟩
    rw [run_slice_h (P := Try.prog) W _ none n 0 (by exact Try.underlying34) .i64 ((0 : Nat) : Int) (by omega) (by omega)]
    rw [size_byte]
    simp [Result.andThen, sliced]
  | some a =>
    refine ⟨some a, c, fun W => ?_, by rw [← bts_take]; exact hs.take k⟩
    rw [run_slice_h (P := Try.prog) W _ (some a) n c (by exact Try.underlying34) .i64 (k : Int) (by omega) (by omega)]
    rw [size_byte]
    simp [Result.andThen, sliced]
    intro _
    obtain ⟨b, off, s⟩ := a
    unfold Addr.add
    split <;> simp_all
/-- One row of those handed in. -/
theorem in6_at {w : World} {A : Option Addr} {c n : Nat} {l : List Row} {ls : List (List UInt8)} (hn : l.length = n) (hls : l.map (·.xs) = ls) (hs : Sl w A c (l.map Row.val)) (hr : ∀ r ∈ l, r.ok w) {j : Nat} (hj : j < n) :
    ∃ b off, ∃ r : Row, A = some ⟨b, off, none⟩ ∧ ls[j]? = some r.xs ∧ r.ok w ∧ w.cell? ⟨b, off + j, none⟩ = some (.slice r.A r.xs.length r.c) := by
  have hj' : j < l.length := by omega
  obtain ⟨b, off, hA, _, hcell⟩ := hs.at_ (by simp; omega)
  refine ⟨b, off, l[j], hA, by rw [← hls]; simp [hj'], hr l[j] (List.getElem_mem hj'), ?_⟩
  exact hcell j _ (by simp [hj', Row.val])
/-- What lies in blocks of other types than the disk's is changed. -/
theorem DiskAt.typed {w w' : World} {base db : Nat} {d : PD} (h : DiskAt w base db d) {S : Nat → Prop} (hm : Mods S w w') (hS : ∀ k, S k → k < w.heap.size → ∃ t cs, Blk w k t cs ∧ t ≠ 61 ∧ t ≠ 65 ∧ t ≠ 67) : DiskAt w' base db d := by
  obtain ⟨vS, vW, z, h⟩ := h
  have key : ∀ k t cs, Blk w k t cs → (t = 61 ∨ t = 65 ∨ t = 67) → ¬ S k := fun k t cs hb ht hs => by
    obtain ⟨t2, cs2, h2, h3, h4, h5⟩ := hS k hs hb.lt
    have : t = t2 := by
      have e := Eq.trans (Eq.symm hb) h2
      injection e with e
      injection e
    subst this
    rcases ht with ht | ht | ht
    · exact h3 ht
    · exact h4 ht
    · exact h5 ht
  refine ⟨vS, vW, z, h.blk.mods hm (key _ _ _ h.blk (.inl rfl)), own_mods h.sure hm (fun k hk => ?_), own_mods h.waits hm (fun k hk => ?_), h.le, h.left, h.ok⟩
  · obtain ⟨-, t, cs, hb, ht⟩ := own_ds h.sure (.inr (.inl rfl)) k hk
    exact key k t cs hb ht
  · obtain ⟨-, t, cs, hb, ht⟩ := own_ds h.waits (.inr (.inr rfl)) k hk
    exact key k t cs hb ht
/-- One cell of a block of bytes is another one. -/
theorem DiskAt.setByte {w : World} {base db : Nat} {d : PD} (h : DiskAt w base db d) {g : Nat} {cs : Array Value} (hb : Blk w g 5 cs) (j : Nat) (u : Value) : DiskAt (w.setCell ⟨g, j, none⟩ u) base db d :=
  h.typed (S := fun k => k = g) (Mods.setCell (S := fun k => k = g) (p := ⟨g, j, none⟩) (Mods.refl _ _) (fun _ => rfl) u) (fun k hk _ => by subst hk; exact ⟨_, _, hb, by decide, by decide, by decide⟩)
theorem blk_byte {w : World} {g : Nat} {ys : List UInt8} (h : Blk w g 5 (bts ys).toArray) {j : Nat} (hj : j < ys.length) : w.cell? ⟨g, j, none⟩ = some (.int .u8 (ys[j].toNat : Int)) := by
  rw [h.cell, List.getElem?_toArray, bts_get ys j hj]
theorem u8_and3 (n : Nat) : bits .and .u8 (n : Int) 3 = ((n % 4 : Nat) : Int) := by
  have h3 : (BitVec.ofInt 8 3).toNat = 2 ^ 2 - 1 := by decide
  have key : (BitVec.ofInt 8 (n : Int) &&& BitVec.ofInt 8 3).toNat = ((n : Int) % ((2 ^ 8 : Nat) : Int)).toNat % 2 ^ 2 := by
    rw [BitVec.toNat_and, BitVec.toNat_ofInt, h3, Nat.and_two_pow_sub_one_eq_mod]
  show IntKind.u8.wrap ((BitVec.ofInt 8 (n : Int) &&& BitVec.ofInt 8 3).toNat : Nat) = ((n % 4 : Nat) : Int)
  rw [key, IntKind.wrap_u8']
  omega
theorem u8_and1 (n : Nat) : bits .and .u8 (n : Int) 1 = ((n % 2 : Nat) : Int) := by
  have h3 : (BitVec.ofInt 8 1).toNat = 2 ^ 1 - 1 := by decide
  have key : (BitVec.ofInt 8 (n : Int) &&& BitVec.ofInt 8 1).toNat = ((n : Int) % ((2 ^ 8 : Nat) : Int)).toNat % 2 ^ 1 := by
    rw [BitVec.toNat_and, BitVec.toNat_ofInt, h3, Nat.and_two_pow_sub_one_eq_mod]
  show IntKind.u8.wrap ((BitVec.ofInt 8 (n : Int) &&& BitVec.ofInt 8 1).toNat : Nat) = ((n % 2 : Nat) : Int)
  rw [key, IntKind.wrap_u8']
  omega
/-- []byte{y, z}. -/
theorem bytes_two (W : World) {a b : UInt8} {y z : Nat} (ha : a.toNat = y) (hb : b.toNat = z) : Sl (W.alloc (.cells #[.int .u8 (y : Int), .int .u8 (z : Int)] 5)) (some ⟨W.heap.size, 0, none⟩) 2 (bts [a, b]) := by
  subst ha; subst hb
  exact build_at (n := 2) rfl rfl rfl (by simp [maxLen])
theorem bytes_three (W : World) {a b c : UInt8} {y z v : Nat} (ha : a.toNat = y) (hb : b.toNat = z) (hc : c.toNat = v) : Sl (W.alloc (.cells #[.int .u8 (y : Int), .int .u8 (z : Int), .int .u8 (v : Int)] 5)) (some ⟨W.heap.size, 0, none⟩) 3 (bts [a, b, c]) := by
  subst ha; subst hb; subst hc
  exact build_at (n := 3) rfl rfl rfl (by simp [maxLen])
/-- []byte{n}: what a crash picks. -/
theorem pick_one (W : World) (base : Nat) (p : UInt8) : Bs base (W.alloc (.cells #[.int .u8 (p.toNat : Int)] 5)) (some ⟨W.heap.size, 0, none⟩) 1 [p] := by
  have := Bs.of_blk (base := base) (n := 1) (ys := [p]) (Blk.new W 5 #[.int .u8 (p.toNat : Int)]) rfl (by simp [maxLen]) 1
  exact this
theorem u8_as {z : Int} (h : (Lit.int .u8 z).wf = true) : ∃ p : UInt8, z = (p.toNat : Int) := by
  have := u8_of_wf h
  exact ⟨UInt8.ofNat z.toNat, by simp; omega⟩
theorem rem65 (p : UInt8) : Int.tmod (p.toNat : Int) 65 = ((p.toNat % 65 : Nat) : Int) := by rw [Int.tmod_eq_emod_of_nonneg (by omega)]; omega
end Go.Proofs.Ytahahnapnfalcaa
