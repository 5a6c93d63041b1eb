/- What the statements of layer 14 share: rows told by a function, bits. -/
import Derived.Test.YtbpflkjodiaokaaAwake14
import Derived.Test.YtbpflkjodiaokaaOpen
import Derived.Laws.BitsAllLaws
import Derived.Deep.OwnRows
namespace Go.Proofs.Ytbpflkjodiaokaa
set_option maxRecDepth 100000
open Go.RowKit
set_option linter.unusedVariables false
set_option linter.unusedSimpArgs false

/-! A row told by a function. -/
def rowF (f : Nat → Value) (n : Nat) : Array Value := ((List.range n).map f).toArray
theorem rowF_size (f : Nat → Value) (n : Nat) : (rowF f n).size = n := by simp [rowF]
theorem rowF_get (f : Nat → Value) {n k : Nat} (h : k < n) : (rowF f n)[k]? = some (f k) := by simp [rowF, h]
theorem rowF_congr {f g : Nat → Value} {n : Nat} (h : ∀ k, k < n → f k = g k) : rowF f n = rowF g n := by
  unfold rowF
  congr 1
  exact List.map_congr_left (fun k hk => h k (List.mem_range.1 hk))
theorem rowF_set (f : Nat → Value) (n k : Nat) (v : Value) : (rowF f n).setIfInBounds k v = rowF (fun j => if j = k then v else f j) n := by
  apply Array.ext_getElem?
  intro i
  by_cases hi : i < n
  · rw [rowF_get _ hi, Array.getElem?_setIfInBounds]
    by_cases hk : k = i
    · subst hk
      rw [if_pos rfl, if_pos (by rw [rowF_size]; exact hi), if_pos rfl]
    · rw [if_neg hk, rowF_get _ hi, if_neg (fun h => hk h.symm)]
  · rw [Array.getElem?_eq_none (by rw [Array.size_setIfInBounds, rowF_size]; omega), Array.getElem?_eq_none (by rw [rowF_size]; omega)]
theorem made_rowF (z : Value) (hz : z.oneCell' = true) (n : Nat) : madeCells #[z] n = rowF (fun _ => z) n := by
  apply Array.ext'
  rw [toList_madeCells_one]
  simp [rowF, List.map_const']
theorem Blk.rowset {w : World} {g n : Nat} {t : TypeId} {f : Nat → Value} (h : Blk w g t (rowF f n)) (k : Nat) (v : Value) : Blk (w.setCell ⟨g, k, none⟩ v) g t (rowF (fun j => if j = k then v else f j) n) := by
  have := h.set_ k v
  rwa [rowF_set] at this
theorem Blk.rowcell {w : World} {g n : Nat} {t : TypeId} {f : Nat → Value} (h : Blk w g t (rowF f n)) {k : Nat} (hk : k < n) : w.cell? ⟨g, k, none⟩ = some (f k) := (h.cell k).trans (rowF_get f hk)

theorem infoInt14 : (Try.prog.info? 3).map (fun i => (i.zero, i.size, i.bytes)) = some (some (.int .i64 0), 1, 8) := by kernel_rfl
theorem infoBool14 : (Try.prog.info? 4).map (fun i => (i.zero, i.size, i.bytes)) = some (some (.bool false), 1, 1) := by kernel_rfl

/-! Bits. -/
theorem u8_mask (k n : Nat) (hk : k ≤ 8) : bits .and .u8 (n : Int) ((2 ^ k - 1 : Nat) : Int) = ((n % 256 % 2 ^ k : Nat) : Int) := by
  have hpow : 2 ^ k - 1 < 256 := by
    have : 2 ^ k ≤ 2 ^ 8 := Nat.pow_le_pow_right (by omega) hk
    omega
  have h3 : (BitVec.ofInt 8 ((2 ^ k - 1 : Nat) : Int)).toNat = 2 ^ k - 1 := by
    rw [BitVec.toNat_ofInt]
    omega
  have key : (BitVec.ofInt 8 (n : Int) &&& BitVec.ofInt 8 ((2 ^ k - 1 : Nat) : Int)).toNat = ((n : Int) % ((2 ^ 8 : Nat) : Int)).toNat % 2 ^ k := by
    rw [BitVec.toNat_and, BitVec.toNat_ofInt, h3, Nat.and_two_pow_sub_one_eq_mod]
  show IntKind.u8.wrap ((BitVec.ofInt 8 (n : Int) &&& BitVec.ofInt 8 ((2 ^ k - 1 : Nat) : Int)).toNat : Nat) = ((n % 256 % 2 ^ k : Nat) : Int)
  rw [key, IntKind.wrap_u8']
  have h1 : ((n : Int) % ((2 ^ 8 : Nat) : Int)).toNat = n % 256 := by omega
  rw [h1]
  have h2 : n % 256 % 2 ^ k < 256 := Nat.lt_of_le_of_lt (Nat.mod_le _ _) (by omega)
  omega
theorem u64_mask (k n : Nat) (hk : k < 64) : bits .and .u64 (n : Int) ((2 ^ k - 1 : Nat) : Int) = ((n % 18446744073709551616 % 2 ^ k : Nat) : Int) := by
  have hpow : 2 ^ k ≤ 9223372036854775808 := by
    have : 2 ^ k ≤ 2 ^ 63 := Nat.pow_le_pow_right (by omega) (by omega)
    omega
  have h3 : (BitVec.ofInt 64 ((2 ^ k - 1 : Nat) : Int)).toNat = 2 ^ k - 1 := by
    rw [BitVec.toNat_ofInt]
    omega
  have key : (BitVec.ofInt 64 (n : Int) &&& BitVec.ofInt 64 ((2 ^ k - 1 : Nat) : Int)).toNat = ((n : Int) % ((2 ^ 64 : Nat) : Int)).toNat % 2 ^ k := by
    rw [BitVec.toNat_and, BitVec.toNat_ofInt, h3, Nat.and_two_pow_sub_one_eq_mod]
  show IntKind.u64.wrap ((BitVec.ofInt 64 (n : Int) &&& BitVec.ofInt 64 ((2 ^ k - 1 : Nat) : Int)).toNat : Nat) = ((n % 18446744073709551616 % 2 ^ k : Nat) : Int)
  rw [key, IntKind.wrap_u64]
  have h1 : ((n : Int) % ((2 ^ 64 : Nat) : Int)).toNat = n % 18446744073709551616 := by omega
  rw [h1]
  have h0 : 0 < 2 ^ k := Nat.pos_of_ne_zero (by simp)
  have h2 : n % 18446744073709551616 % 2 ^ k < 2 ^ k := Nat.mod_lt _ h0
  omega
theorem u64_and7 {n : Nat} (h : n < 18446744073709551616) : bits .and .u64 (n : Int) 7 = ((n % 8 : Nat) : Int) := by
  have h1 := u64_mask 3 n (by omega)
  rw [Nat.mod_eq_of_lt h] at h1
  exact h1
theorem u8_and15v (b : UInt8) : bits .and .u8 (b.toNat : Int) 15 = ((b.toNat % 16 : Nat) : Int) := by
  have h := u8_mask 4 b.toNat (by omega)
  have hb := b.toNat_lt
  rw [Nat.mod_eq_of_lt (by omega : b.toNat < 256)] at h
  exact h
theorem u8_and31v (b : UInt8) : bits .and .u8 (b.toNat : Int) 31 = ((b.toNat % 32 : Nat) : Int) := by
  have h := u8_mask 5 b.toNat (by omega)
  have hb := b.toNat_lt
  rw [Nat.mod_eq_of_lt (by omega : b.toNat < 256)] at h
  exact h

theorem sl_byte14 {w : World} {A : Option Addr} {c j : Nat} {xs : List UInt8} (h : Sl w A c (bts xs)) (hj : j < xs.length) :
    ∃ b off, A = some ⟨b, off, none⟩ ∧ b < w.heap.size ∧ w.cell? ⟨b, off + j, none⟩ = some (.int .u8 (xs[j].toNat : Int)) := by
  obtain ⟨b, off, hA, hb, hc⟩ := h.at_ (by simp; omega)
  exact ⟨b, off, hA, hb, hc j _ (bts_get xs j hj)⟩
/-- A new block of one byte reads as it. -/
theorem one_byte14 (w : World) (t : TypeId) {i : Nat} (hi : i < 256) : Sl (w.alloc (.cells #[.int .u8 (i : Int)] t)) (some ⟨w.heap.size, 0, none⟩) 1 (bts [UInt8.ofNat i]) := by
  refine ⟨by simp, by simp [maxLen], (fun h => by cases h), .inr ⟨w.heap.size, 0, rfl, fun j u hu => ?_⟩⟩
  rw [Nat.zero_add, (Blk.new w t #[.int .u8 (i : Int)]).cell]
  have he : (UInt8.ofNat i).toNat = i := by simp; omega
  simp only [bts, List.map_cons, List.map_nil, he] at hu
  simpa using hu

theorem u8_and7v (b : UInt8) : bits .and .u8 (b.toNat : Int) 7 = ((b.toNat % 8 : Nat) : Int) := by
  have h := u8_mask 3 b.toNat (by omega)
  have hb := b.toNat_lt
  rw [Nat.mod_eq_of_lt (by omega : b.toNat < 256)] at h
  exact h
/-- What 'first' has at a slot. -/
def firstV (L : List KV) (k : Nat) : Value := match lookL L k with | some (x :: _) => .int .i64 ((x.toNat + 1 : Nat) : Int) | _ => .int .i64 0
theorem firstV_nil (k : Nat) : firstV [] k = .int .i64 0 := rfl
theorem firstV_snoc {L : List KV} {t : Nat} {x : UInt8} (h : lookL L t = none) (k : Nat) : firstV (L ++ [(t, [x])]) k = if k = t then .int .i64 ((x.toNat + 1 : Nat) : Int) else firstV L k := by
  unfold firstV
  rw [lookL_snoc]
  by_cases hk : k = t
  · subst hk
    rw [h, if_pos rfl, if_pos rfl]
  · rw [if_neg hk]
    cases hl : lookL L k with
    | none => simp only; rw [if_neg (fun h => hk h.symm)]
    | some u => rfl
theorem conv14 {w : World} {A : Option Addr} {c n : Nat} {xs : List UInt8} (hn : xs.length = n) (hs : Sl w A c (bts xs)) : (convert 28 9 (.slice A n c)).run Try.prog w = .ok (.string (strOf xs)) w :=
  run_string_sl _ 28 5 Try.underlying28 Try.underlying5 A n c _ hn hs 9 Try.underlying9
end Go.Proofs.Ytbpflkjodiaokaa
