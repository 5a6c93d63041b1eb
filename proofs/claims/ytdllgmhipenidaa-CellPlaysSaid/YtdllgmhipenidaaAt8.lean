/- A cell in memory, as it runs in the statements of layer 8. -/
import Derived.Test.YtdllgmhipenidaaRun8
import Derived.Test.YtdllgmhipenidaaCel11
import Derived.Test.YtdllgmhipenidaaOpen
import Derived.Test.YtdllgmhipenidaaInRows
import Derived.Laws.BitsAllLaws
namespace Go.Proofs.Ytdllgmhipenidaa
set_option maxRecDepth 100000
open Go.RowKit
set_option linter.unusedVariables false

theorem live_put {L : List (List UInt8)} {c : PCell} (h : c.at_ + c.spare < L.length) {b : List UInt8} (hb : b.length = 64) : c.put (live L []) b = (live (L.set (c.at_ + c.spare) b) [], 0) := by
  unfold PCell.put
  rw [live_write (by omega) (by omega) hb, if_neg (by simp), live_sync]
  show (live (L.set ((c.at_ + c.spare : Nat) : Int).toNat b) [], (0 : Int)) = _
  rw [Int.toNat_natCast]
theorem live_set {L : List (List UInt8)} {c : PCell} (h : c.at_ + c.spare < L.length) {s : List UInt8} (hs : s.length ≤ 43) (he : c.err = 0) (hg : c.great + 1 < 18446744073709551616) : c.set (live L []) s = (live (L.set (c.at_ + c.spare) (layC (c.great + 1) s)) [], c.tell s, 0) := by
  unfold PCell.set
  rw [if_neg (by omega), if_neg (by simp [he]), if_neg (by omega), live_put h (layC_length hs), if_neg (by simp)]
theorem op2_spare (at_ : Nat) (b0 b1 : List UInt8) : (op2 at_ b0 b1).spare ≤ 1 := by
  obtain ⟨_, _, _, h | h | h⟩ := op2_cases at_ b0 b1 <;> omega
structure At8 (w : World) (base cb db at_ : Nat) (L : List (List UInt8)) (c : PCell) : Prop where
  all : CellAt w base cb db (live L []) c
  op : op2 at_ (L.getD at_ []) (L.getD (at_ + 1) []) = c
  fit : at_ + 1 < L.length
  le : L.length ≤ 65536
section
variable {w w' : World} {base cb db at_ : Nat} {L : List (List UInt8)} {c : PCell}
theorem At8.nil (h : At8 w base cb db at_ L c) (hm : Mods Nil w w') : At8 w' base cb db at_ L c := ⟨h.all.nil hm, h.op, h.fit, h.le⟩
theorem At8.disk (h : At8 w base cb db at_ L c) : DiskAt w base db (live L []) := h.all.1
theorem At8.place (h : At8 w base cb db at_ L c) : c.at_ = at_ ∧ c.spare ≤ 1 ∧ c.err = 0 := by
  rw [← h.op]
  obtain ⟨h1, h2, _⟩ := op2_cases at_ (L.getD at_ []) (L.getD (at_ + 1) [])
  exact ⟨h1, op2_spare _ _ _, h2⟩
theorem live_read0 {L : List (List UInt8)} {i : Nat} (h : i < L.length) : ((live L []).read (i : Int)).1 = L.getD i [] := by
  rw [live_read (by omega) (by omega)]
  simp [lastW]
theorem a8open (h : DiskAt w base db (live L [])) (hb : base ≤ w.heap.size) (hf : at_ + 1 < L.length) (hl : L.length ≤ 65536) {i : Int} (hi : (at_ : Int) = i) : Calls Try.prog 34 #[.pointer (some ⟨db, 0, none⟩), .int .i64 i] w fun e w' => ∃ cb, e = .returned (.tuple #[.pointer (some ⟨cb, 0, none⟩), .int .i64 0]) ∧ At8 w' base cb db at_ L (op2 at_ (L.getD at_ []) (L.getD (at_ + 1) [])) ∧ Mods Nil w w' := by
  subst hi
  have e : cellOpen (live L []) at_ = op2 at_ (L.getD at_ []) (L.getD (at_ + 1) []) := by
    rw [cellOpen_two, live_read0 (by omega)]
    have := live_read0 (L := L) (i := at_ + 1) hf
    rw [show (((at_ + 1 : Nat)) : Int) = (at_ : Int) + 1 by omega] at this
    rw [this]
  have := copen_ok h hb (by exact hl) (at_ := at_) (live_at (by omega) (by omega)) (live_at (by omega) (by omega))
  rw [e] at this
  exact this.mono fun e' w' ⟨cb, h1, h2, h3⟩ => ⟨cb, h1, ⟨h2, rfl, hf, hl⟩, h3⟩
theorem a8again (h : At8 w base cb db at_ L c) (hb : base ≤ w.heap.size) {i : Int} (hi : (at_ : Int) = i) : Calls Try.prog 34 #[.pointer (some ⟨db, 0, none⟩), .int .i64 i] w fun e w' => ∃ cb, e = .returned (.tuple #[.pointer (some ⟨cb, 0, none⟩), .int .i64 0]) ∧ At8 w' base cb db at_ L c ∧ Mods Nil w w' := by
  have := a8open h.disk hb h.fit h.le hi
  rw [h.op] at this
  exact this
theorem a8set (h : At8 w base cb db at_ L c) {A : Option Addr} {cc n : Nat} {s : List UInt8} (hs : Sl w A cc (bts s)) (hn : s.length = n) (h43 : n ≤ 43) (hg : c.great + 1 < 18446744073709551616) :
    Calls Try.prog 36 #[.pointer (some ⟨cb, 0, none⟩), .slice A n cc] w fun e w' => e = .returned (.int .i64 0) ∧ At8 w' base cb db at_ (L.set (at_ + c.spare) (layC (c.great + 1) s)) (c.tell s) ∧ CM base w w' := by
  obtain ⟨p1, p2, p3⟩ := h.place
  have hf := h.fit
  have := cset_any h.all (by simp [live]) hs hn
  rw [live_set (by rw [p1]; omega) (by omega) p3 hg, p1] at this
  refine this.mono fun e w' ⟨h1, h2, h3⟩ => ⟨h1, ⟨h2, ?_, by rw [List.length_set]; exact hf, by rw [List.length_set]; exact h.le⟩, h3⟩
  have ht := op2_tell h.op (s := s) (by omega) hg
  have e0 : (L.set (at_ + c.spare) (layC (c.great + 1) s)).getD at_ [] = if c.spare = 0 then layC (c.great + 1) s else L.getD at_ [] := by
    by_cases hz : c.spare = 0
    · rw [if_pos hz, hz, Nat.add_zero, List.getD_eq_getElem?_getD, List.getElem?_set_self (by omega)]
      rfl
    · rw [if_neg hz, List.getD_eq_getElem?_getD, List.getElem?_set_ne (by omega), List.getD_eq_getElem?_getD]
  have e1 : (L.set (at_ + c.spare) (layC (c.great + 1) s)).getD (at_ + 1) [] = if c.spare = 0 then L.getD (at_ + 1) [] else layC (c.great + 1) s := by
    by_cases hz : c.spare = 0
    · rw [if_pos hz, hz, Nat.add_zero, List.getD_eq_getElem?_getD, List.getElem?_set_ne (by omega), List.getD_eq_getElem?_getD]
    · rw [if_neg hz, show c.spare = 1 by omega, List.getD_eq_getElem?_getD, List.getElem?_set_self (by omega)]
      rfl
  rw [e0, e1]
  exact ht
theorem a8big (h : At8 w base cb db at_ L c) {A : Option Addr} {cc n : Nat} (h43 : 43 < n) : Calls Try.prog 36 #[.pointer (some ⟨cb, 0, none⟩), .slice A n cc] w fun e w' => e = .returned (.int .i64 13) ∧ w = w' := cset_big h.all h43
theorem a8get (h : At8 w base cb db at_ L c) {s : List UInt8} (hd : c.data = s) {n : Nat} (hn : s.length = n) : Calls Try.prog 40 #[.pointer (some ⟨cb, 0, none⟩)] w fun e w' => ∃ A cc, e = .returned (.slice A n cc) ∧ Sl w' A cc (bts s) ∧ Mods Nil w w' := by
  subst hd
  exact cget_any h.all.2 hn
theorem a8turn (h : At8 w base cb db at_ L c) {x : Nat} (hx : c.turn = x) {y : Int} (hy : (x : Int) = y) : Calls Try.prog 41 #[.pointer (some ⟨cb, 0, none⟩)] w fun e w' => e = .returned (.int .u64 y) ∧ Mods Nil w w' := by
  subst hy
  exact cturnof_any h.all.2 hx
/-- Two new blocks. -/
theorem op2_new (at_ : Nat) : op2 at_ zeros64 zeros64 = cellNew at_ := by
  obtain ⟨e1, e2, e3, h | h | h⟩ := op2_cases at_ zeros64 zeros64
  · rw [zeros_right] at h; cases h.1
  · rw [zeros_right] at h; cases h.1
  · refine PCell.ext' e1 h.2.2.2 h.2.2.1 ?_ e2
    rw [e3, zeros_turn, zeros_turn56]
    rfl
theorem getD_zeros {n i : Nat} (h : i < n) : (List.replicate n zeros64).getD i [] = zeros64 := by
  rw [List.getD_eq_getElem?_getD, List.getElem?_replicate, if_pos h]
  rfl
theorem a8new {n : Nat} (h : DiskAt w base db (live (List.replicate n zeros64) [])) (hb : base ≤ w.heap.size) (hf : at_ + 1 < n) (hl : n ≤ 65536) {i : Int} (hi : (at_ : Int) = i) : Calls Try.prog 34 #[.pointer (some ⟨db, 0, none⟩), .int .i64 i] w fun e w' => ∃ cb, e = .returned (.tuple #[.pointer (some ⟨cb, 0, none⟩), .int .i64 0]) ∧ At8 w' base cb db at_ (List.replicate n zeros64) (cellNew at_) ∧ Mods Nil w w' := by
  have := a8open h hb (at_ := at_) (by simpa using hf) (by simpa using hl) hi
  rw [getD_zeros (by omega), getD_zeros hf, op2_new] at this
  exact this
theorem cellNew_tell_turn (at_ : Nat) (s : List UInt8) : ((cellNew at_).tell s).turn = 1 := PCell.tell_turn (c := cellNew at_) (by simp [cellNew]) s
end
/-- Bytes to a string. -/
theorem conv8 {w : World} {A : Option Addr} {c n : Nat} {xs : List UInt8} (hn : xs.length = n) (hs : Sl w A c (bts xs)) : (convert 42 9 (.slice A n c)).run Try.prog w = .ok (.string (strOf xs)) w :=
  run_string_sl _ 42 5 Try.underlying42 Try.underlying5 A n c _ hn hs 9 Try.underlying9
/-- One row of those handed in. -/
theorem in8_at {w : World} {A : Option Addr} {c n : Nat} {l : List Row} {ls : List (List UInt8)} (hn : l.length = n) (hls : l.map (·.xs) = ls) (hs : Sl w A c (l.map Row.val)) (hr : ∀ r ∈ l, r.ok w) {j : Nat} (hj : j < n) :
    ∃ b off, ∃ r : Row, A = some ⟨b, off, none⟩ ∧ ls[j]? = some r.xs ∧ r.ok w ∧ b < w.heap.size ∧ w.cell? ⟨b, off + j, none⟩ = some (.slice r.A r.xs.length r.c) := by
  have hj' : j < l.length := by omega
  obtain ⟨b, off, hA, hb, hcell⟩ := hs.at_ (by simp; omega)
  refine ⟨b, off, l[j], hA, by rw [← hls]; simp [hj'], hr l[j] (List.getElem_mem hj'), hb, ?_⟩
  exact hcell j _ (by simp [hj', Row.val])
theorem u8_and1c (n : Nat) : bits .and .u8 (n : Int) 1 = ((n % 2 : Nat) : Int) := by
  have h3 : (BitVec.ofInt 8 1).toNat = 2 ^ 1 - 1 := by decide
  have key : (BitVec.ofInt 8 (n : Int) &&& BitVec.ofInt 8 1).toNat = ((n : Int) % ((2 ^ 8 : Nat) : Int)).toNat % 2 ^ 1 := by
    rw [BitVec.toNat_and, BitVec.toNat_ofInt, h3, Nat.and_two_pow_sub_one_eq_mod]
  show IntKind.u8.wrap ((BitVec.ofInt 8 (n : Int) &&& BitVec.ofInt 8 1).toNat : Nat) = ((n % 2 : Nat) : Int)
  rw [key, IntKind.wrap_u8']
  omega
theorem i64_and1c (n : Nat) (h : n < 9223372036854775808) : bits .and .i64 (n : Int) 1 = ((n % 2 : Nat) : Int) := by
  have h3 : (BitVec.ofInt 64 1).toNat = 2 ^ 1 - 1 := by decide
  have key : (BitVec.ofInt 64 (n : Int) &&& BitVec.ofInt 64 1).toNat = ((n : Int) % ((2 ^ 64 : Nat) : Int)).toNat % 2 ^ 1 := by
    rw [BitVec.toNat_and, BitVec.toNat_ofInt, h3, Nat.and_two_pow_sub_one_eq_mod]
  show IntKind.i64.wrap ((BitVec.ofInt 64 (n : Int) &&& BitVec.ofInt 64 1).toNat : Nat) = ((n % 2 : Nat) : Int)
  rw [key, IntKind.wrap_i64]
  omega
theorem made_bytes8 (n : Nat) : (madeCells (Value.int .u8 0).cells (n * 1)).toList = bts (List.replicate n 0) := by
  rw [Nat.mul_one]
  unfold madeCells bts
  simp [Value.cells]
  apply List.ext_getElem
  · simp
  · intro i h1 h2
    simp [Nat.mod_one]
theorem take_snoc8 {ls : List (List UInt8)} {i : Nat} {x : List UInt8} (h : ls[i]? = some x) : ls.take (i + 1) = ls.take i ++ [x] := by
  rw [List.take_add_one, h]
  rfl
end Go.Proofs.Ytdllgmhipenidaa
