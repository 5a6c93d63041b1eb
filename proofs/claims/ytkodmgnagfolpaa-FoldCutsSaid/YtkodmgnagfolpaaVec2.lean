/- Package vec: how two rows stand, their sum. -/
import Derived.Test.YtkodmgnagfolpaaVec1
import Derived.Test.YtkodmgnagfolpaaQT
import Derived.Test.YtkodmgnagfolpaaInRows
namespace Go.Proofs.Ytkodmgnagfolpaa
set_option maxRecDepth 100000
open Go.RowKit
set_option linter.unusedVariables false
set_option linter.unusedSimpArgs false

/-- A box of a row. -/
theorem Blk.oneV {W : World} {g : Nat} {t : TypeId} {v : Value} (h : Blk W g t #[v]) : W.cell? ⟨g, 0, none⟩ = some v ∧ W.frozen? ⟨g, 0, none⟩ = false := ⟨by rw [h.cell]; rfl, h.frozen 0⟩
theorem dec_le (x y : Nat) : decide ((x : Int) ≤ (y : Int)) = decide (x ≤ y) := by
  by_cases h : x ≤ y <;> simp [h]
theorem beq_u64 (x y : Nat) : ((x : Int) == (y : Int)) = decide (x = y) := by
  rw [Bool.eq_iff_iff]; simp; omega
set_option maxHeartbeats 1600000 in
theorem le1_any (W : World) {ga gb n c m d j : Nat} {A B : Option Addr} {xs ys : List Nat} (ha : Blk W ga 34 #[.slice A n c]) (hb : Blk W gb 34 #[.slice B m d]) (hn : xs.length = n) (hs : Sl W A c (nums xs)) (hm : ys.length = m) (hy : Sl W B d (nums ys)) (hj : j < n) :
    Calls Try.prog 79 #[.int .i64 (j : Int), .pointer (some ⟨ga, 0, none⟩), .pointer (some ⟨gb, 0, none⟩)] W fun e W' => e = .returned (.bool (decide (vat xs j ≤ vat ys j))) ∧ Mods Nil W W' := by
  obtain ⟨b, off, rfl, hbl, hc⟩ := sl_num hs (j := j) (by omega)
  have hjI : (j : Int) < (n : Int) := by omega
  have HAT : Hid (∀ V, Mods Nil W V → Calls Try.prog 25 #[.slice B m d, .int .i64 (j : Int)] V fun e V' => e = .returned (.int .u64 (vat ys j : Int)) ∧ Mods Nil W V') := Lib.hid (fun V hV => (vat_nat V hm (hy.mods hV (fun _ _ h => h)) j).mono fun e V' h => ⟨h.1, h.2 ▸ hV⟩)
  obtain ⟨x, hx⟩ : ∃ x, vat xs j = x := ⟨_, rfl⟩
  obtain ⟨y, hyy⟩ : ∃ y, vat ys j = y := ⟨_, rfl⟩
  rw [hx] at hc
  rw [hyy] at HAT
  rw [hx, hyy]
  have z0 : ∀ V, Mods Nil W V → V.cell? ⟨ga, 0, none⟩ = some (.slice (some ⟨b, off, none⟩) n c) := fun V hV => (ha.mods hV (fun h => h)).oneV.1
  have z1 : ∀ V, Mods Nil W V → V.cell? ⟨gb, 0, none⟩ = some (.slice B m d) := fun V hV => (hb.mods hV (fun h => h)).oneV.1
  have z2 : ∀ V, Mods Nil W V → V.cell? ⟨b, off + j, none⟩ = some (.int .u64 (x : Int)) := fun V hV => (World.cell?_of_block (hV.block b hbl (fun h => h))).trans hc
  clear hx hyy hn hs hm hy hj ha hb hbl hc
  go_enter Try.func79, Try.ntmps79
  go_wp2_with fail
  refine gq_region (by kernel_rfl) (by kernel_rfl) ?_
  try simp only [Act.put, List.setIfInBounds_toArray, List.set_cons_zero, List.set_cons_succ]
  repeat (first
    | go_big_quiet_skip
    | (go_big_quiet_want; first
        | (refine gq_call HAT.out ?_ ?_; (focus (intro V; go_simp; done)); go_big_quiet_on)
        | (refine gq_op (v := ?_) ?_ ?_; rotate_left; (focus (intro V hV; go_simp; try with_reducible rfl)); go_big_quiet_on))
      simp only [Act.put, List.setIfInBounds_toArray, List.set_cons_zero, List.set_cons_succ])
  refine wpQuiet_nil ?_
  intro V hV
  go_wp2_with fail
  go_ret
  exact ⟨rfl, hV⟩
/-- What comes of a sum that has a number more. -/
def wsum (s x : Nat) : Nat := (s + x) % 18446744073709551616
theorem wsum_wrap (s x : Nat) : IntKind.u64.wrap ((s : Int) + (x : Int)) = (wsum s x : Int) := by
  rw [IntKind.wrap_u64]; unfold wsum; omega
set_option maxHeartbeats 1600000 in
theorem sum1_any (W : World) {gs gv n c j s : Nat} {A : Option Addr} {xs : List Nat} (ha : Blk W gs 27 #[.int .u64 (s : Int)]) (hb : Blk W gv 34 #[.slice A n c]) (hn : xs.length = n) (hs : Sl W A c (nums xs)) (hr : ∀ a, A = some a → a.block ≠ gs) (hj : j < n) :
    Calls Try.prog 58 #[.int .i64 (j : Int), .pointer (some ⟨gs, 0, none⟩), .pointer (some ⟨gv, 0, none⟩)] W fun e W' => e = .returned (.bool (decide (vat xs j ≤ wsum s (vat xs j)))) ∧ Blk W' gs 27 #[.int .u64 (wsum s (vat xs j) : Int)] ∧ Mods (fun k => k = gs) W W' := by
  obtain ⟨b, off, rfl, hbl, hc⟩ := sl_num hs (j := j) (by omega)
  have hjI : (j : Int) < (n : Int) := by omega
  have hne : gs ≠ gv := ha.ne_ hb (by decide)
  have hbs : b ≠ gs := hr _ rfl
  obtain ⟨x, hx⟩ : ∃ x, vat xs j = x := ⟨_, rfl⟩
  rw [hx] at hc ⊢
  have hw := wsum_wrap s x
  obtain ⟨y, hy⟩ : ∃ y, wsum s x = y := ⟨_, rfl⟩
  rw [hy] at hw ⊢
  have z0 : ∀ V, Mods Nil W V → V.cell? ⟨gs, 0, none⟩ = some (.int .u64 (s : Int)) := fun V hV => (ha.mods hV (fun h => h)).oneV.1
  have z1 : ∀ V, Mods Nil W V → V.cell? ⟨gv, 0, none⟩ = some (.slice (some ⟨b, off, none⟩) n c) := fun V hV => (hb.mods hV (fun h => h)).oneV.1
  have z2 : ∀ V, Mods Nil W V → V.cell? ⟨b, off + j, none⟩ = some (.int .u64 (x : Int)) := fun V hV => (World.cell?_of_block (hV.block b hbl (fun h => h))).trans hc
  have HA := Lib.hid ha
  have HB := Lib.hid hb
  clear hx hy hn hs hj ha hb hr
  go_enter Try.func58, Try.ntmps58
  go_wp2_with fail
  refine qt_region 7 (by kernel_rfl) rfl ?_
  refine qt_quiet (fun V => Mods Nil W V) 0 6 1 (by kernel_rfl) ((Mods.refl Nil W).drew) ?_
  simp only [List.drop_zero, List.take_succ_cons, List.take_zero]
  repeat (first
    | go_big_quiet_skip
    | (go_big_quiet_want; first
        | (refine gq_op (v := ?_) ?_ ?_; rotate_left; (focus (intro V hV; go_simp; try with_reducible rfl)); go_big_quiet_on))
      simp only [Act.put, List.setIfInBounds_toArray, List.set_cons_zero, List.set_cons_succ])
  refine wpQuiet_nil ?_
  intro V hV
  refine qt_list 6 1 rfl (by kernel_rfl) ?_
  simp only [List.drop_succ_cons, List.drop_zero]
  have BV := HA.out.mods hV (fun h => h)
  have f0 := BV.oneV.2
  have g0 := BV.oneV.1
  obtain ⟨W2, hW2⟩ : ∃ W2, V.setCell ⟨gs, 0, none⟩ (.int .u64 (y : Int)) = W2 := ⟨_, rfl⟩
  have B2 : Hid (Blk W2 gs 27 #[.int .u64 (y : Int)]) := by
    rw [← hW2]; exact Lib.hid (BV.set_ 0 (.int .u64 (y : Int)))
  have M2 : Hid (Mods (fun k => k = gs) W W2) := by
    rw [← hW2]; exact Lib.hid (Mods.setCell (S := fun k => k = gs) (p := ⟨gs, 0, none⟩) (hV.mono (fun _ _ h => h.elim)) (fun _ => rfl) _)
  have BV := Lib.hid BV
  have HV := Lib.hid hV
  clear z0 z1 z2 hV
  go_wp2_with fail
  have y0 : ∀ V, Mods Nil W2 V → V.cell? ⟨gs, 0, none⟩ = some (.int .u64 (y : Int)) := fun V hV => (B2.out.mods hV (fun h => h)).oneV.1
  have y1 : ∀ V, Mods Nil W2 V → V.cell? ⟨gv, 0, none⟩ = some (.slice (some ⟨b, off, none⟩) n c) := fun V hV => ((HB.out.mods M2.out (fun h => hne h.symm)).mods hV (fun h => h)).oneV.1
  have y2 : ∀ V, Mods Nil W2 V → V.cell? ⟨b, off + j, none⟩ = some (.int .u64 (x : Int)) := fun V hV => (World.cell?_of_block (hV.block b (by have := M2.out.size; omega) (fun h => h))).trans ((World.cell?_of_block (M2.out.block b hbl hbs)).trans hc)
  refine gq_region (by kernel_rfl) (by kernel_rfl) ?_
  try simp only [Act.put, List.setIfInBounds_toArray, List.set_cons_zero, List.set_cons_succ]
  repeat (first
    | go_big_quiet_skip
    | (go_big_quiet_want; first
        | (refine gq_op (v := ?_) ?_ ?_; rotate_left; (focus (intro V hV; go_simp; try with_reducible rfl)); go_big_quiet_on))
      simp only [Act.put, List.setIfInBounds_toArray, List.set_cons_zero, List.set_cons_succ])
  refine wpQuiet_nil ?_
  intro V2 hV2
  go_wp2_with fail
  go_ret
  exact ⟨rfl, B2.out.mods hV2 (fun h => h), M2.out.trans (hV2.mono (fun _ _ h => h.elim))⟩
end Go.Proofs.Ytkodmgnagfolpaa
