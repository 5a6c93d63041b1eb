/- Package segment: lay. -/
import Derived.Test.YtgebcpfgihcoiaaSgm3
import Derived.Test.YtgebcpfgihcoiaaSgm5
import Derived.Test.YtgebcpfgihcoiaaMemX
import Derived.Test.YtgebcpfgihcoiaaArr
namespace Go.Proofs.Ytgebcpfgihcoiaa
set_option maxRecDepth 100000
open Go.RowKit
set_option linter.unusedVariables false

theorem infoU8s : (Try.prog.info? 5).map (·.size) = some 1 := by kernel_rfl
/-- A cut of bytes that may be read. -/
theorem cut_run {w : World} {A : Option Addr} {n c lo hi : Nat} {r : List UInt8} (hs : Sl w A c (bts r)) (hn : r.length = n) (h1 : lo ≤ hi) (h2 : hi ≤ n) : ∃ A' c', (∀ W, (Instr.slice 42 (.slice A n c) (some (.int .i64 (lo : Int))) (some (.int .i64 (hi : Int))) none).run Try.prog W = .ok (.slice A' (hi - lo) c') W) ∧ Sl w A' c' (bts ((r.drop lo).take (hi - lo))) := by
  have hle := hs.le
  rw [bts_length, hn] at hle
  have hcut := (hs.cut (k := lo) (by rw [bts_length]; omega)).take (hi - lo)
  rw [bts_drop, bts_take] at hcut
  cases A with
  | some a =>
    refine ⟨_, _, fun W => ?_, hcut⟩
    rw [run_slice_lh (P := Try.prog) W _ a n c (by exact Try.underlying42) .i64 .i64 (lo : Int) (hi : Int) (by omega) (by omega) (by omega)]
    have hsz : (sizeOf (Try.prog.elem 42)).run Try.prog W = .ok 1 W := by rfl
    rw [hsz]
    simp only [Result.andThen, sliced]
    rw [show (lo : Int).toNat = lo by omega, show (hi : Int).toNat = hi by omega]
    simp
  | none =>
    obtain ⟨rfl, hr⟩ := hs.of_nil
    obtain rfl : r = [] := by cases r; rfl; simp [bts] at hr
    simp at hn
    subst hn
    obtain rfl : hi = 0 := by omega
    obtain rfl : lo = 0 := by omega
    exact ⟨none, 0, fun W => by rfl, by simpa using hs⟩
/-- A byte is stored into a block of bytes. -/
theorem gw_store_u8 {P : Program} {ops : Array Oper} {rest : List Oper} {o : Oper} {a : Act} {w : World} {Q : Exit → Act → World → Prop} (hg : o.guard = none) (ty : TypeId) (x y : Operand) (ho : o.op = .store ty x y) (hdst : o.dst = none) (hinfo : (P.info? ty).map (·.size) = some 1)
    (g i : Nat) (hx : a.eval x = .pointer (some ⟨g, i, none⟩)) (u : UInt8) (hy : a.eval y = .int .u8 (u.toNat : Int)) (t : TypeId) (l : List UInt8) (hB : Blk w g t (bts l).toArray) (hi : i < l.length)
    (h : ∀ W, Blk W g t (bts (l.set i u)).toArray → Mods (fun j => j = g) w W → wpList P ops Q rest a W) : wpList P ops Q (o :: rest) a w := by
  have hc : w.cell? ⟨g, i, none⟩ = some (.int .u8 (l[i].toNat : Int)) := by
    rw [hB.cell i]
    simpa using bts_get l i hi
  have hf := hB.frozen i
  cases hq : P.info? ty with
  | none => simp [hq] at hinfo
  | some ie =>
    have hsz : ie.size = 1 := by simpa [hq] using hinfo
    refine wpList_plain hg fun K hK => ?_
    have hK' := hK _ _ (h _ (hB.bset i u) (Mods.setCell (S := fun j => j = g) (p := ⟨g, i, none⟩) (Mods.refl _ _) (fun _ => rfl) _))
    unfold Oper.wp execOp
    have hst : (storeVar ty ⟨g, i, none⟩ (.int .u8 (u.toNat : Int))).run P w = .ok () (w.setCell ⟨g, i, none⟩ (.int .u8 (u.toNat : Int))) := by
      simp [storeVar, Sem.run_bind, sizeOf, typeInfo, hq, hsz, Value.cells, go_sem, hc, hf]
    simp only [ho, hx, hy, Instr.storeAt, Instr.sureAddr, Sem.run_bind, Sem.run_pure, Result.andThen_ok, hst]
    simpa [Oper.upon, hdst, Act.put] using hK'

theorem four_set4 (x : Nat) : ∀ (l : List UInt8), l.length = 64 → ∀ k, k ≤ 60 → set4 l k x = l.take k ++ fourOf x ++ l.drop (k + 4) := by
  intro l hl k hk
  apply List.ext_getElem?
  intro i
  unfold set4 fourOf
  by_cases h1 : i < k
  · rw [List.getElem?_append_left (by simp; omega), List.getElem?_append_left (by simp; omega)]
    simp [h1, show ¬ k = i by omega, show ¬ k + 1 = i by omega, show ¬ k + 2 = i by omega, show ¬ k + 3 = i by omega]
  · by_cases h2 : i < k + 4
    · rw [List.getElem?_append_left (by simp; omega), List.getElem?_append_right (by simp; omega)]
      have : (List.take k l).length = k := by simp; omega
      rw [this]
      obtain ⟨j, rfl⟩ : ∃ j, i = k + j := ⟨i - k, by omega⟩
      have hj : j < 4 := by omega
      match j, hj with
      | 0, _ => simp [show k < l.length by omega]
      | 1, _ => simp [show k + 1 < l.length by omega]
      | 2, _ => simp [show k + 2 < l.length by omega]
      | 3, _ => simp [show k + 3 < l.length by omega]
    · rw [List.getElem?_append_right (by simp; omega)]
      simp only [List.length_append, List.length_take, List.length_cons, List.length_nil]
      rw [List.getElem?_drop, show k + 4 + (i - (min k l.length + (0 + 1 + 1 + 1 + 1))) = i by omega]
      simp [show ¬ k = i by omega, show ¬ k + 1 = i by omega, show ¬ k + 2 = i by omega, show ¬ k + 3 = i by omega]
/-- The block as it is laid, step by step. -/
def l1P (e : Nat) : List UInt8 := set4 zeros64 0 e
def l2P (e pl : Nat) : List UInt8 := set4 (l1P e) 4 (pl + 1)
def l5P (e pl k m q : Nat) : List UInt8 := (((l2P e pl).set 8 (UInt8.ofNat k)).set 9 (UInt8.ofNat m)).set 10 (UInt8.ofNat q)
def l6P (e pl k m : Nat) (p : List UInt8) : List UInt8 := (l5P e pl k m p.length).take 11 ++ p ++ (l5P e pl k m p.length).drop (11 + p.length)
theorem l5P_eq (e pl k m q : Nat) : l5P e pl k m q = headP e pl k m q ++ List.replicate 53 0 := by
  unfold l5P l2P l1P set4 headP fourOf zeros64
  rfl
theorem l5P_length (e pl k m q : Nat) : (l5P e pl k m q).length = 64 := by
  rw [l5P_eq]
  simp [headP, fourOf]
theorem l6P_eq {e pl k m : Nat} {p : List UInt8} (hp : p.length ≤ 45) : l6P e pl k m p = bodyP e pl k m p ++ List.replicate 8 0 := by
  unfold l6P
  rw [l5P_eq]
  have hh : (headP e pl k m p.length).length = 11 := by simp [headP, fourOf]
  rw [List.take_append_of_le_length (by omega), List.take_of_length_le (by omega), ← hh, List.drop_length_add_append]
  unfold bodyP
  rw [List.drop_replicate, List.append_assoc, List.append_assoc, List.append_assoc, List.replicate_append_replicate, show 53 - p.length = 45 - p.length + 8 by omega]
theorem l6P_take {e pl k m : Nat} {p : List UInt8} (hp : p.length ≤ 45) : (l6P e pl k m p).take 56 = bodyP e pl k m p := by
  rw [l6P_eq hp, List.take_left' (bodyP_length hp)]
theorem l6P_length {e pl k m : Nat} {p : List UInt8} (hp : p.length ≤ 45) : (l6P e pl k m p).length = 64 := by
  rw [l6P_eq hp]
  simp [bodyP_length hp]
theorem l7P_eq {e pl k m : Nat} {p : List UInt8} (hp : p.length ≤ 45) : set4 (sealedOf (bodyP e pl k m p) ++ (l6P e pl k m p).drop 60) 60 e = blockP e pl k m p := by
  have hs : (sealedOf (bodyP e pl k m p)).length = 60 := by rw [sealedOf_length, bodyP_length hp]
  have hd : (l6P e pl k m p).drop 60 = List.replicate 4 0 := by
    rw [l6P_eq hp, List.drop_append, List.drop_eq_nil_of_le (by rw [bodyP_length hp]; omega), bodyP_length hp]
    rfl
  rw [hd, four_set4 e _ (by simp [hs]) 60 (by omega), List.take_left' hs, List.drop_eq_nil_of_le (by simp [hs])]
  unfold blockP
  simp
theorem wp_copy_mk {P : Program} {o : Oper} {a : Act} {w : World} {K : Act → World → Prop} {Q : Exit → Act → World → Prop} (d s : Operand) (dT sT : TypeId) (hop : o.op = Op.call { callee := Callee.builtin Builtin.copy, args := #[d, s], argTypes := #[dT, sT] })
    (elem : TypeId) (hu : P.underlying dT = some (.slice elem)) (hs : (P.info? elem).map (·.size) = some 1) (g off m dCap : Nat) (t : TypeId) (cur new : Array Value) (hd : a.eval d = .slice (some ⟨g, off, none⟩) m dCap) (hB : Blk w g t cur)
    (A : Option Addr) (n c : Nat) (xs : List Value) (hx : a.eval s = .slice A n c) (hsl : Sl w A c xs) (hn : xs.length = n) (h1 : ∀ u ∈ xs, u.oneCell' = true) (hnm : n ≤ m) (hfit : off + n ≤ cur.size) (hnew : (cur.toList.take off ++ xs ++ cur.toList.drop (off + n)).toArray = new)
    (hK : ∀ W, Blk W g t new → Mods (fun i => i = g) w W → K (a.put o.dst (goInt n)) W) : o.wp P a w K Q :=
  wp_copy_sl d s dT sT hop elem hu hs g off m dCap t cur hd hB A n c xs hx hsl hn h1 hnm hfit (hK _ (by rw [hnew]; exact hB.setRow new) (Mods.setRow (S := fun i => i = g) (Mods.refl _ _) (fun _ => rfl) _))
theorem run_alloc_sb (w : World) : (Instr.alloc 94 true (.tuple #[])).run Try.prog w = .ok (.pointer (some ⟨w.heap.size, 0, none⟩)) (w.alloc (.cells zB 94)) := by rfl
theorem gw_alloc_sb {ops : Array Oper} {rest : List Oper} {o : Oper} {a : Act} {w : World} {Q : Exit → Act → World → Prop} (hg : o.guard = none) (ho : o.op = .alloc 94)
    (h : ∀ W, Blk W w.heap.size 94 (bts zeros64).toArray → Mods Nil w W → W.heap.size = w.heap.size + 1 → wpList Try.prog ops Q rest (a.put o.dst (.pointer (some ⟨w.heap.size, 0, none⟩))) W) : wpList Try.prog ops Q (o :: rest) a w := by
  refine wpList_plain hg fun K hK => ?_
  have z0 : zB = (bts zeros64).toArray := by rfl
  have hB := Blk.new w 94 zB
  rw [z0] at hB
  have := hK _ _ (h _ hB ((Mods.refl Nil w).alloc _) (by simp))
  unfold Oper.wp execOp
  simp only [ho, run_alloc_sb, Sem.run_bind, Sem.run_pure, Result.andThen_ok]
  rw [z0]
  exact this
theorem blk_range {w : World} {g : Nat} {t : TypeId} {cs : List Value} (h : Blk w g t cs.toArray) : w.rangeAt g 0 cs := fun j u hu => by
  rw [Nat.zero_add, h.cell j]
  simpa using hu
theorem blk_sl {w : World} {g : Nat} {t : TypeId} {l : List UInt8} (h : Blk w g t (bts l).toArray) (hl : l.length = 64) (m : Nat) : Sl w (some ⟨g, 0, none⟩) 64 (bts (l.take m)) := by
  refine ⟨by simp; omega, by unfold maxLen; omega, (fun h => by cases h), .inr ⟨g, 0, rfl, fun j u hu => blk_range h j u ?_⟩⟩
  rw [← bts_take, List.getElem?_take] at hu
  split at hu
  · exact hu
  · cases hu
end Go.Proofs.Ytgebcpfgihcoiaa
