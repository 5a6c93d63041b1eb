/- Package cell: arrays of bytes by value; turns. -/
import Derived.Test.YtdllgmhipenidaaCel0
import Derived.Test.YtdllgmhipenidaaDiskA
import Derived.Test.YtdllgmhipenidaaGQ
import Derived.Test.YtdllgmhipenidaaSumsM
import Derived.Deep.RegionHeldLaw
import Derived.Deep.QuietTactic
import Derived.BigQuiet
import Derived.StillTailTactics
import Derived.Laws.CopyRow
import Derived.Lib.BytesEntry
namespace Go.Proofs.Ytdllgmhipenidaa
set_option maxRecDepth 100000
open Go.RowKit
set_option linter.unusedVariables false

theorem infoCT : (Try.prog.info? 144).map (·.size) = some 8 := by kernel_rfl
theorem infoCB : (Try.prog.info? 142).map (·.size) = some 64 := by kernel_rfl
theorem infoCU : (Try.prog.info? 5).map (·.size) = some 1 := by kernel_rfl
/-- A turn as a value; a block. -/
def aggT (x : Nat) : Value := .agg (bts (eight x)).toArray
def aggC (b : List UInt8) : Value := .agg (bts b).toArray
theorem btsA_size (l : List UInt8) : (bts l).toArray.size = l.length := by simp
theorem btsA_all (l : List UInt8) : (bts l).toArray.all (·.oneCell') = true := all_oneCell_toArray (bts_one l)
theorem infoCBl {b : List UInt8} (h : b.length = 64) : (Try.prog.info? 142).map (·.size) = some (bts b).length := by rw [bts_length, h]; exact infoCB
theorem infoCBa {b : List UInt8} (h : b.length = 64) : (Try.prog.info? 142).map (·.size) = some (bts b).toArray.size := by rw [btsA_size, h]; exact infoCB
theorem infoCTl (x : Nat) : (Try.prog.info? 144).map (·.size) = some (bts (eight x)).length := by rw [bts_length]; exact infoCT
theorem infoCTa (x : Nat) : (Try.prog.info? 144).map (·.size) = some (bts (eight x)).toArray.size := by rw [btsA_size]; exact infoCT
theorem run_alloc_ct (w : World) : (Instr.alloc 144 true (.tuple #[])).run Try.prog w = .ok (.pointer (some ⟨w.heap.size, 0, none⟩)) (w.alloc (.cells (bts (eight 0)).toArray 144)) := by rfl
theorem run_alloc_cb (w : World) : (Instr.alloc 142 true (.tuple #[])).run Try.prog w = .ok (.pointer (some ⟨w.heap.size, 0, none⟩)) (w.alloc (.cells (bts zeros64).toArray 142)) := by rfl
section
variable {P : Program}
/-- A new block, the world told by what it holds alone. -/
theorem gw_alloc_of {ops : Array Oper} {rest : List Oper} {o : Oper} {a : Act} {w : World} {Q : Exit → Act → World → Prop} {T : TypeId} {z : Array Value} (hr : ∀ w, (Instr.alloc T true (.tuple #[])).run P w = .ok (.pointer (some ⟨w.heap.size, 0, none⟩)) (w.alloc (.cells z T))) (hg : o.guard = none) (ho : o.op = .alloc T)
    (h : ∀ W, Blk W w.heap.size T z → Mods Nil w W → W.heap.size = w.heap.size + 1 → wpList P ops Q rest (a.put o.dst (.pointer (some ⟨w.heap.size, 0, none⟩))) W) : wpList P ops Q (o :: rest) a w := by
  refine wpList_plain hg fun K hK => ?_
  have := hK _ _ (h _ (Blk.new w T z) ((Mods.refl Nil w).alloc _) (by simp))
  unfold Oper.wp execOp
  simp only [ho, hr, Sem.run_bind, Sem.run_pure, Result.andThen_ok]
  exact this
/-- A copy out of cells that are known, as many as there is room for. -/
theorem wpList_copy_cut {ops : Array Oper} {rest : List Oper} {o : Oper} {a : Act} {w : World} {Q : Exit → Act → World → Prop} (hg : o.guard = none) (d s : Operand) (dT sT : TypeId) (hop : o.op = Op.call { callee := Callee.builtin Builtin.copy, args := #[d, s], argTypes := #[dT, sT] })
    (elem : TypeId) (hu : P.underlying dT = some (.slice elem)) (hs : (P.info? elem).map (·.size) = some 1) (g off m dCap : Nat) (t : TypeId) (cur new : Array Value) (hd : a.eval d = .slice (some ⟨g, off, none⟩) m dCap) (hB : Blk w g t cur)
    (b o2 n c : Nat) (xs : List Value) (hx : a.eval s = .slice (some ⟨b, o2, none⟩) n c) (hn : xs.length = Nat.min n m) (hsrc : w.rangeAt b o2 xs) (h1 : ∀ u ∈ xs, u.oneCell' = true) (hfit : off + xs.length ≤ cur.size) (hnew : (cur.toList.take off ++ xs ++ cur.toList.drop (off + xs.length)).toArray = new)
    (hK : ∀ W, Blk W g t new → Mods (fun i => i = g) w W → wpList P ops Q rest (a.put o.dst (goInt xs.length)) W) : wpList P ops Q (o :: rest) a w := by
  have hrun := run_copy_row (P := P) w dT sT o.type elem g off m dCap ⟨b, o2, none⟩ n c cur t xs hu hs hB hn (fun j u hj => by rw [Addr.add_lit]; exact hsrc j u hj) hfit h1
  rw [hnew] at hrun
  have hK2 := hK _ (hB.setRow new) (Mods.setRow (S := fun i => i = g) (Mods.refl _ _) (fun _ => rfl) _)
  refine wpList_plain hg fun K hK' => ?_
  unfold Oper.wp
  simp [execOp, hop, resolve, invoke, builtin, hd, hx, hrun, Result.andThen]
  unfold Oper.upon
  exact hK' _ _ hK2
end
theorem blkL_range {w : World} {g : Nat} {t : TypeId} {cs : List Value} (h : Blk w g t cs.toArray) : w.rangeAt g 0 cs := fun j u hu => by
  rw [Nat.zero_add, h.cell j]
  simpa using hu
theorem range_cut {w : World} {g o : Nat} {b : List UInt8} (h : w.rangeAt g o (bts b)) (k n : Nat) : w.rangeAt g (o + k) (bts ((b.drop k).take n)) := fun j u hu => by
  rw [Nat.add_assoc]
  refine h (k + j) u ?_
  rw [← bts_take, ← bts_drop, List.getElem?_take] at hu
  split at hu
  · rwa [List.getElem?_drop] at hu
  · cases hu
/-- Bytes in a block, as a slice of it. -/
theorem range_sl {w : World} {g o : Nat} {b : List UInt8} (h : w.rangeAt g o (bts b)) {c : Nat} (hc : b.length ≤ c) (hm : c ≤ maxLen) : Sl w (some ⟨g, o, none⟩) c (bts b) :=
  ⟨by rw [bts_length]; exact hc, hm, (fun h => by cases h), .inr ⟨g, o, rfl, h⟩⟩
theorem loadBytes_sl {P : Program} {w : World} {b o n c : Nat} {xs : List UInt8} (hn : xs.length = n) (h : w.rangeAt b o (bts xs)) : (Extern.Bytes.bytesOf (.slice (some ⟨b, o, none⟩) n c)).run P w = .ok ⟨xs.toArray⟩ w := by
  subst hn
  have hl := Go.Lib.run_loadBytesX (P := P) w (xs.map fun u => (u.toNat : Int)) ⟨b, o, none⟩ .empty (fun j x hj => by
    rw [Addr.add_lit]
    refine h j _ ?_
    rw [List.getElem?_map] at hj
    cases hq : xs[j]? with
    | none => rw [hq] at hj; cases hj
    | some u =>
      rw [hq] at hj
      injection hj with hj
      subst hj
      unfold bts
      rw [List.getElem?_map, hq]
      rfl)
  have e : Go.Lib.bytesOf (xs.map fun u => (u.toNat : Int)) = xs := by
    unfold Go.Lib.bytesOf
    rw [List.map_map]
    conv => rhs; rw [← List.map_id xs]
    apply List.map_congr_left
    intro u _
    simp
  rw [e, List.length_map] at hl
  unfold Extern.Bytes.bytesOf
  dsimp only
  rw [hl]
  congr 1
  apply ByteArray.ext
  show (#[] : Array UInt8) ++ xs.toArray = xs.toArray
  simp
theorem cmp_num : ∀ a b : List UInt8, a.length = b.length → Go.Lib.compareBytes a b = if num8 a < num8 b then -1 else if num8 b < num8 a then 1 else 0
  | [], [], _ => by simp [Go.Lib.compareBytes]
  | [], _ :: _, h => by simp at h
  | _ :: _, [], h => by simp at h
  | x :: a, y :: b, h => by
    have hl : a.length = b.length := by simpa using h
    have ih := cmp_num a b hl
    have ha := num8_lt a
    have hb := num8_lt b
    have hlt : ∀ u v : UInt8, u < v ↔ u.toNat < v.toNat := fun u v => UInt8.lt_iff_toNat_lt
    unfold Go.Lib.compareBytes
    simp only [num8, hl, hlt]
    rw [hl] at ha
    obtain ⟨N, hN⟩ : ∃ N, 256 ^ b.length = N := ⟨_, rfl⟩
    rw [hN] at ha hb ⊢
    rcases Nat.lt_trichotomy x.toNat y.toNat with h1 | h1 | h1
    · have := Nat.mul_le_mul_right N (show x.toNat + 1 ≤ y.toNat from h1)
      rw [Nat.add_mul] at this
      rw [if_pos h1, if_pos (by omega)]
    · rw [if_neg (show ¬ x.toNat < y.toNat by omega), if_neg (show ¬ y.toNat < x.toNat by omega), ih, h1]
      simp only [Nat.add_lt_add_iff_left]
    · have := Nat.mul_le_mul_right N (show y.toNat + 1 ≤ x.toNat from h1)
      rw [Nat.add_mul] at this
      rw [if_neg (by omega), if_pos h1, if_neg (by omega), if_pos (by omega)]
theorem run_compare8 {P : Program} {w : World} {b1 o1 n1 c1 b2 o2 n2 c2 : Nat} {xs ys : List UInt8} (h1 : xs.length = n1) (h2 : ys.length = n2) (hx : w.rangeAt b1 o1 (bts xs)) (hy : w.rangeAt b2 o2 (bts ys)) :
    (Extern.BytealgCompare.compare #[.slice (some ⟨b1, o1, none⟩) n1 c1, .slice (some ⟨b2, o2, none⟩) n2 c2]).run P w = .ok (.int .i64 (Go.Lib.compareBytes xs ys)) w := by
  change Sem.run P (do pure (goInt (Extern.BytealgCompare.cmp (← Extern.Bytes.bytesOf (.slice (some ⟨b1, o1, none⟩) n1 c1)) (← Extern.Bytes.bytesOf (.slice (some ⟨b2, o2, none⟩) n2 c2))))) w = _
  simp only [Sem.run_bind, loadBytes_sl (P := P) h1 hx, loadBytes_sl (P := P) h2 hy, Sem.run_pure, Result.andThen]
  rw [Go.Lib.cmp_eq]
  rfl
theorem ccompare_any {w : World} {b1 o1 n1 c1 b2 o2 n2 c2 : Nat} {xs ys : List UInt8} (h1 : xs.length = n1) (h2 : ys.length = n2) (hx : w.rangeAt b1 o1 (bts xs)) (hy : w.rangeAt b2 o2 (bts ys)) :
    Calls Try.prog 125 #[.slice (some ⟨b1, o1, none⟩) n1 c1, .slice (some ⟨b2, o2, none⟩) n2 c2] w fun e w' => e = .returned (.int .i64 (Go.Lib.compareBytes xs ys)) ∧ w = w' := by
  have hr := run_compare8 (P := Try.prog) (c1 := c1) (c2 := c2) h1 h2 hx hy
  go_enter Try.func125, Try.ntmps125
  go_wp2_with fail
  rw [run_callFunc_extern Try.func131 (by kernel_rfl) (by kernel_rfl) (by kernel_rfl) (e := Extern.BytealgCompare.compare) (by kernel_rfl), hr]
  simp only [Result.andThen]
  rw [Oper.upon_value]
  go_wp2
  go_ret
  exact ⟨rfl, rfl⟩
end Go.Proofs.Ytdllgmhipenidaa
