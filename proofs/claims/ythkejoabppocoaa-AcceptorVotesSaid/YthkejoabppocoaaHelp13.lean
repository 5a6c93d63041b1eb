/- What the statements of layer 13 share: rows told by a function, votes counted below a slot, bits. -/
import Derived.Test.YthkejoabppocoaaAwake13
import Derived.Test.YthkejoabppocoaaActs
import Derived.Test.YthkejoabppocoaaOpen
import Derived.Laws.BitsAllLaws
import Derived.Deep.OwnRows
namespace Go.Proofs.Ythkejoabppocoaa
set_option maxRecDepth 100000
open Go.RowKit
set_option linter.unusedVariables false
set_option linter.unusedSimpArgs false

/-! A row told by a function. -/
def rowF (f : Nat → Value) (n : Nat) : Array Value := ((List.range n).map f).toArray
theorem rowF_size (f : Nat → Value) (n : Nat) : (rowF f n).size = n := by simp [rowF]
theorem rowF_get (f : Nat → Value) {n k : Nat} (h : k < n) : (rowF f n)[k]? = some (f k) := by simp [rowF, h]
theorem rowF_congr {f g : Nat → Value} {n : Nat} (h : ∀ k, k < n → f k = g k) : rowF f n = rowF g n := by
  unfold rowF
  congr 1
  exact List.map_congr_left (fun k hk => h k (List.mem_range.1 hk))
theorem rowF_set (f : Nat → Value) (n k : Nat) (v : Value) : (rowF f n).setIfInBounds k v = rowF (fun j => if j = k then v else f j) n := by
  apply Array.ext_getElem?
  intro i
  by_cases hi : i < n
  · rw [rowF_get _ hi, Array.getElem?_setIfInBounds]
    by_cases hk : k = i
    · subst hk
      rw [if_pos rfl, if_pos (by rw [rowF_size]; exact hi), if_pos rfl]
    · rw [if_neg hk, rowF_get _ hi, if_neg (fun h => hk h.symm)]
  · rw [Array.getElem?_eq_none (by rw [Array.size_setIfInBounds, rowF_size]; omega), Array.getElem?_eq_none (by rw [rowF_size]; omega)]
theorem made_rowF (z : Value) (hz : z.oneCell' = true) (n : Nat) : madeCells #[z] n = rowF (fun _ => z) n := by
  apply Array.ext'
  rw [toList_madeCells_one]
  simp [rowF, List.map_const']
theorem Blk.rowset {w : World} {g n : Nat} {t : TypeId} {f : Nat → Value} (h : Blk w g t (rowF f n)) (k : Nat) (v : Value) : Blk (w.setCell ⟨g, k, none⟩ v) g t (rowF (fun j => if j = k then v else f j) n) := by
  have := h.set_ k v
  rwa [rowF_set] at this
theorem Blk.rowcell {w : World} {g n : Nat} {t : TypeId} {f : Nat → Value} (h : Blk w g t (rowF f n)) {k : Nat} (hk : k < n) : w.cell? ⟨g, k, none⟩ = some (f k) := (h.cell k).trans (rowF_get f hk)

theorem infoInt13 : (Try.prog.info? 3).map (fun i => (i.zero, i.size, i.bytes)) = some (some (.int .i64 0), 1, 8) := by kernel_rfl
theorem infoBool13 : (Try.prog.info? 4).map (fun i => (i.zero, i.size, i.bytes)) = some (some (.bool false), 1, 1) := by kernel_rfl
theorem infoU13 : (Try.prog.info? 26).map (fun i => (i.zero, i.size, i.bytes)) = some (some (.int .u64 0), 1, 8) := by kernel_rfl
theorem infoStr13 : (Try.prog.info? 9).map (fun i => (i.zero, i.size, i.bytes)) = some (some (.string ⟨#[]⟩), 1, 16) := by kernel_rfl

/-! Bits. -/
theorem u8_mask (k n : Nat) (hk : k ≤ 8) : bits .and .u8 (n : Int) ((2 ^ k - 1 : Nat) : Int) = ((n % 256 % 2 ^ k : Nat) : Int) := by
  have hpow : 2 ^ k - 1 < 256 := by
    have : 2 ^ k ≤ 2 ^ 8 := Nat.pow_le_pow_right (by omega) hk
    omega
  have h3 : (BitVec.ofInt 8 ((2 ^ k - 1 : Nat) : Int)).toNat = 2 ^ k - 1 := by
    rw [BitVec.toNat_ofInt]
    omega
  have key : (BitVec.ofInt 8 (n : Int) &&& BitVec.ofInt 8 ((2 ^ k - 1 : Nat) : Int)).toNat = ((n : Int) % ((2 ^ 8 : Nat) : Int)).toNat % 2 ^ k := by
    rw [BitVec.toNat_and, BitVec.toNat_ofInt, h3, Nat.and_two_pow_sub_one_eq_mod]
  show IntKind.u8.wrap ((BitVec.ofInt 8 (n : Int) &&& BitVec.ofInt 8 ((2 ^ k - 1 : Nat) : Int)).toNat : Nat) = ((n % 256 % 2 ^ k : Nat) : Int)
  rw [key, IntKind.wrap_u8']
  have h1 : ((n : Int) % ((2 ^ 8 : Nat) : Int)).toNat = n % 256 := by omega
  rw [h1]
  have h2 : n % 256 % 2 ^ k < 256 := Nat.lt_of_le_of_lt (Nat.mod_le _ _) (by omega)
  omega
theorem u64_mask (k n : Nat) (hk : k < 64) : bits .and .u64 (n : Int) ((2 ^ k - 1 : Nat) : Int) = ((n % 18446744073709551616 % 2 ^ k : Nat) : Int) := by
  have hpow : 2 ^ k ≤ 9223372036854775808 := by
    have : 2 ^ k ≤ 2 ^ 63 := Nat.pow_le_pow_right (by omega) (by omega)
    omega
  have h3 : (BitVec.ofInt 64 ((2 ^ k - 1 : Nat) : Int)).toNat = 2 ^ k - 1 := by
    rw [BitVec.toNat_ofInt]
    omega
  have key : (BitVec.ofInt 64 (n : Int) &&& BitVec.ofInt 64 ((2 ^ k - 1 : Nat) : Int)).toNat = ((n : Int) % ((2 ^ 64 : Nat) : Int)).toNat % 2 ^ k := by
    rw [BitVec.toNat_and, BitVec.toNat_ofInt, h3, Nat.and_two_pow_sub_one_eq_mod]
  show IntKind.u64.wrap ((BitVec.ofInt 64 (n : Int) &&& BitVec.ofInt 64 ((2 ^ k - 1 : Nat) : Int)).toNat : Nat) = ((n % 18446744073709551616 % 2 ^ k : Nat) : Int)
  rw [key, IntKind.wrap_u64]
  have h1 : ((n : Int) % ((2 ^ 64 : Nat) : Int)).toNat = n % 18446744073709551616 := by omega
  rw [h1]
  have h0 : 0 < 2 ^ k := Nat.pos_of_ne_zero (by simp)
  have h2 : n % 18446744073709551616 % 2 ^ k < 2 ^ k := Nat.mod_lt _ h0
  omega
theorem u64_and7 {n : Nat} (h : n < 18446744073709551616) : bits .and .u64 (n : Int) 7 = ((n % 8 : Nat) : Int) := by
  have h1 := u64_mask 3 n (by omega)
  rw [Nat.mod_eq_of_lt h] at h1
  exact h1
theorem u8_and15' (b : UInt8) : bits .and .u8 (b.toNat : Int) 15 = ((b.toNat % 16 : Nat) : Int) := by
  have h := u8_mask 4 b.toNat (by omega)
  have hb := b.toNat_lt
  rw [Nat.mod_eq_of_lt (by omega : b.toNat < 256)] at h
  exact h
theorem u8_and31' (b : UInt8) : bits .and .u8 (b.toNat : Int) 31 = ((b.toNat % 32 : Nat) : Int) := by
  have h := u8_mask 5 b.toNat (by omega)
  have hb := b.toNat_lt
  rw [Nat.mod_eq_of_lt (by omega : b.toNat < 256)] at h
  exact h

theorem sl_byte13 {w : World} {A : Option Addr} {c j : Nat} {xs : List UInt8} (h : Sl w A c (bts xs)) (hj : j < xs.length) :
    ∃ b off, A = some ⟨b, off, none⟩ ∧ b < w.heap.size ∧ w.cell? ⟨b, off + j, none⟩ = some (.int .u8 (xs[j].toNat : Int)) := by
  obtain ⟨b, off, hA, hb, hc⟩ := h.at_ (by simp; omega)
  exact ⟨b, off, hA, hb, hc j _ (bts_get xs j hj)⟩
/-- A new block of one byte reads as it. -/
theorem one_byte13 (w : World) (t : TypeId) {i : Nat} (hi : i < 256) : Sl (w.alloc (.cells #[.int .u8 (i : Int)] t)) (some ⟨w.heap.size, 0, none⟩) 1 (bts [UInt8.ofNat i]) := by
  refine ⟨by simp, by simp [maxLen], (fun h => by cases h), .inr ⟨w.heap.size, 0, rfl, fun j u hu => ?_⟩⟩
  rw [Nat.zero_add, (Blk.new w t #[.int .u8 (i : Int)]).cell]
  have he : (UInt8.ofNat i).toNat = i := by simp; omega
  simp only [bts, List.map_cons, List.map_nil, he] at hu
  simpa using hu

/-- A script's element where it lies. -/
theorem act13_at {W : World} {A : Option Addr} {n c : Nat} {l : List (List Fv)} (h : Acts W A n c [.int .i64, .int .u64, .int .u64, .bytes] l) {j : Nat} (hj : j < n) :
    ∃ (b off : Nat) (kd : Int) (s bal : Nat) (A2 : Option Addr) (c2 : Nat) (xs : List UInt8) (q : Nat), A = some ⟨b, off, none⟩ ∧ b < W.heap.size ∧ (W.cell? ⟨b, off + j * 4, none⟩ = some (.int .i64 kd) ∧ W.cell? ⟨b, off + j * 4 + 1, none⟩ = some (.int .u64 (s : Int)) ∧ W.cell? ⟨b, off + j * 4 + 2, none⟩ = some (.int .u64 (bal : Int)) ∧ W.cell? ⟨b, off + j * 4 + 3, none⟩ = some (.slice A2 q c2)) ∧ xs.length = q ∧ Sl W A2 c2 (bts xs) ∧ s < 18446744073709551616 ∧ bal < 18446744073709551616 := by
  obtain ⟨b, off, hA, hb, hc⟩ := h.cells (by omega)
  have hjl : j < l.length := by rw [h.size]; exact hj
  have hx := List.getElem?_eq_getElem hjl
  obtain ⟨hk, hg⟩ := h.good _ (List.getElem_mem hjl)
  generalize l[j] = x at hx hk hg
  match x, hk, hg, hx with
  | [.int k1 kd, .int k2 s, .int k3 z, .bytes A2 c2 xs], hk, hg, hx =>
    simp [Fv.kind] at hk
    obtain ⟨rfl, rfl, rfl⟩ := hk
    have g2 : (Lit.int .u64 s).wf = true := hg (.int .u64 s) (by simp)
    have g3 : (Lit.int .u64 z).wf = true := hg (.int .u64 z) (by simp)
    have g4 : Sl W A2 c2 (bts xs) := hg (.bytes A2 c2 xs) (by simp)
    have h2 := u64_of_wf g2
    have h3 := u64_of_wf g3
    have c0 := hc j _ hx 0 (.int .i64 kd) rfl
    have c1 := hc j _ hx 1 (.int .u64 s) rfl
    have c2' := hc j _ hx 2 (.int .u64 z) rfl
    have c3 := hc j _ hx 3 (.bytes A2 c2 xs) rfl
    obtain ⟨s', rfl⟩ : ∃ s' : Nat, s = (s' : Int) := ⟨s.toNat, by omega⟩
    obtain ⟨z', rfl⟩ : ∃ z' : Nat, z = (z' : Int) := ⟨z.toNat, by omega⟩
    exact ⟨b, off, kd, s', z', A2, c2, xs, xs.length, hA, hb, ⟨by simpa [Fv.val] using c0, by simpa [Fv.val, Nat.add_assoc] using c1, by simpa [Fv.val, Nat.add_assoc] using c2', by simpa [Fv.val, Nat.add_assoc] using c3⟩, rfl, g4, by omega, by omega⟩

/-- The same, its cells later on. -/
theorem act13_on {w W : World} {A : Option Addr} {n c : Nat} {l : List (List Fv)} (h : Acts w A n c [.int .i64, .int .u64, .int .u64, .bytes] l) (hm : Mods Nil w W) {j : Nat} (hj : j < n) :
    ∃ (b off : Nat) (kd : Int) (s bal : Nat) (A2 : Option Addr) (c2 : Nat) (xs : List UInt8) (q : Nat), A = some ⟨b, off, none⟩ ∧ b < W.heap.size ∧ (W.cell? ⟨b, off + j * 4, none⟩ = some (.int .i64 kd) ∧ W.cell? ⟨b, off + j * 4 + 1, none⟩ = some (.int .u64 (s : Int)) ∧ W.cell? ⟨b, off + j * 4 + 2, none⟩ = some (.int .u64 (bal : Int)) ∧ W.cell? ⟨b, off + j * 4 + 3, none⟩ = some (.slice A2 q c2)) ∧ xs.length = q ∧ Sl w A2 c2 (bts xs) ∧ s < 18446744073709551616 ∧ bal < 18446744073709551616 := by
  obtain ⟨b, off, kd, s, bal, A2, c2, xs, q, hA, hb, ⟨h0, h1, h2, h3⟩, hq, hs, g1, g2⟩ := act13_at h hj
  have hbl := fun i => World.cell?_of_block (a := ⟨b, i, none⟩) (hm.block b hb (fun h => h))
  exact ⟨b, off, kd, s, bal, A2, c2, xs, q, hA, Nat.lt_of_lt_of_le hb hm.size, ⟨(hbl _).trans h0, (hbl _).trans h1, (hbl _).trans h2, (hbl _).trans h3⟩, hq, hs, g1, g2⟩

/-! Votes below a slot, counted. -/
def cntV (l : List PVt) (k : Nat) : Nat := (l.filter (fun x => decide (x.slot < k))).length
theorem cntV_zero (l : List PVt) : cntV l 0 = 0 := by simp [cntV]
theorem cntV_le (l : List PVt) (k : Nat) : cntV l k ≤ l.length := List.length_filter_le _ _
theorem cntV_all {l : List PVt} {k : Nat} (h : ∀ v ∈ l, v.slot < k) : cntV l k = l.length := by
  unfold cntV
  rw [List.filter_eq_self.2 (fun v hv => by simpa using h v hv)]
theorem cntV_low {l : List PVt} {k : Nat} (h : ∀ v ∈ l, k ≤ v.slot) : cntV l k = 0 := by
  unfold cntV
  rw [List.filter_eq_nil_iff.2 (fun v hv => by have := h v hv; simp; omega)]
  rfl
theorem cntV_cons (x : PVt) (l : List PVt) (k : Nat) : cntV (x :: l) k = (if x.slot < k then 1 else 0) + cntV l k := by
  unfold cntV
  rw [List.filter_cons]
  by_cases h : x.slot < k
  · simp [h]; omega
  · simp [h]
/-- No vote stands at the slot. -/
theorem cntV_none {l : List PVt} {k : Nat} (h : lookV l k = none) : cntV l (k + 1) = cntV l k := by
  have h1 := lookV_none.1 h
  clear h
  induction l with
  | nil => rfl
  | cons x l ih =>
    rw [cntV_cons, cntV_cons, ih (fun v hv => h1 v (by simp [hv]))]
    have := h1 x (by simp)
    by_cases h2 : x.slot < k
    · rw [if_pos h2, if_pos (by omega)]
    · rw [if_neg h2, if_neg (by omega)]
/-- One does: it is the next one. -/
theorem cntV_some {l : List PVt} (hr : riseV l) {k : Nat} {v : PVt} (h : lookV l k = some v) : l[cntV l k]? = some v ∧ cntV l (k + 1) = cntV l k + 1 := by
  obtain ⟨hv, rfl⟩ := lookV_some h
  clear h
  induction l with
  | nil => cases hv
  | cons x l ih =>
    have hp := List.pairwise_cons.1 hr
    rcases List.mem_cons.1 hv with rfl | hv
    · have h0 : cntV l v.slot = 0 := cntV_low (fun y hy => Nat.le_of_lt (hp.1 y hy))
      have h1 : cntV l (v.slot + 1) = 0 := cntV_low (fun y hy => hp.1 y hy)
      rw [cntV_cons, cntV_cons, h0, h1, if_neg (by omega), if_pos (by omega)]
      simp
    · have hlt := hp.1 v hv
      obtain ⟨h1, h2⟩ := ih hp.2 hv
      rw [cntV_cons, cntV_cons, h2, if_pos hlt, if_pos (by omega)]
      rw [Nat.add_comm 1 (cntV l v.slot), List.getElem?_cons_succ]
      exact ⟨h1, by omega⟩
/-- What 'voted' has at a slot. -/
def hasV (l : List PVt) (k : Nat) : Value := .bool (lookV l k).isSome
theorem hasV_ins (v : PVt) {l : List PVt} (h : riseV l) (k : Nat) : hasV (insV v l) k = if k = v.slot then .bool true else hasV l k := by
  unfold hasV
  rw [lookV_ins v h k]
  by_cases hk : k = v.slot
  · rw [if_pos hk, if_pos hk]; rfl
  · rw [if_neg hk, if_neg hk]
theorem accept_ok {a : PAc} {v : PVt} (h1 : ¬ v.bal < a.prom) (h2 : ¬ v.slot < a.low) : a.accept v = { prom := v.bal, low := a.low, L := insV v a.L } ∧ a.accE v = 0 := by
  unfold PAc.accept PAc.accE
  rw [if_neg h1, if_neg h2, if_neg h1, if_neg h2]
  exact ⟨rfl, rfl⟩
end Go.Proofs.Ythkejoabppocoaa
