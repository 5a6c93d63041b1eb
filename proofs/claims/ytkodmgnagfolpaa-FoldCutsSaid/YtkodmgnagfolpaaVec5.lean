/- Package vec: what Less, Min and Max do at each place. -/
import Derived.Test.YtkodmgnagfolpaaVec4
namespace Go.Proofs.Ytkodmgnagfolpaa
set_option maxRecDepth 100000
open Go.RowKit
set_option linter.unusedVariables false
set_option linter.unusedSimpArgs false

set_option maxHeartbeats 1600000 in
theorem less1_any (W : World) {base g gb n m d j : Nat} {v : Value} {B : Option Addr} {xs ys : List Nat} (ha : Blk W g 34 #[v]) (ho : W.ownsRow base 27 1 v n (nums xs)) (hb : Blk W gb 34 #[.slice B m d]) (hn : xs.length = n) (hm : ys.length = m) (hy : Sl W B d (nums ys)) (hj : j < n) (hle : vat ys j ≤ vat xs j) (hbd : vat xs j < 18446744073709551616) :
    Calls Try.prog 72 #[.int .i64 (j : Int), .pointer (some ⟨g, 0, none⟩), .pointer (some ⟨gb, 0, none⟩)] W fun e W' => e = .returned (.tuple #[]) ∧ W'.ownsRow base 27 1 v n (nums (xs.set j (vat xs j - vat ys j))) ∧ Mods (fun k => v.ownBlock = some k) W W' := by
  have hjI : (j : Int) < (n : Int) := by omega
  obtain ⟨q, cap, hv, hcap, _, hbq, hqlt, hfz, hcell, hset⟩ := own_set ho hj
  have hc := hcell _ (nums_get xs j (by omega))
  subst hv
  have HAT : Hid (∀ V, Mods Nil W V → Calls Try.prog 25 #[.slice B m d, .int .i64 (j : Int)] V fun e V' => e = .returned (.int .u64 (vat ys j : Int)) ∧ Mods Nil W V') := Lib.hid (fun V hV => (vat_nat V hm (hy.mods hV (fun _ _ h => h)) j).mono fun e V' h => ⟨h.1, h.2 ▸ hV⟩)
  obtain ⟨x, hx⟩ : ∃ x, vat xs j = x := ⟨_, rfl⟩
  obtain ⟨y, hyy⟩ : ∃ y, vat ys j = y := ⟨_, rfl⟩
  obtain ⟨u, hu⟩ : ∃ u, x - y = u := ⟨_, rfl⟩
  rw [hx] at hc hle hbd ⊢
  rw [hyy] at HAT hle ⊢
  rw [hu]
  have hsub : IntKind.u64.wrap ((x : Int) - (y : Int)) = (u : Int) := by rw [IntKind.wrap_u64]; omega
  clear hu hle hbd
  have z0 : ∀ V, Mods Nil W V → V.cell? ⟨g, 0, none⟩ = some (.slice (some ⟨q, 0, none⟩) n cap) := fun V hV => (ha.mods hV (fun h => h)).oneV.1
  have z1 : ∀ V, Mods Nil W V → V.cell? ⟨gb, 0, none⟩ = some (.slice B m d) := fun V hV => (hb.mods hV (fun h => h)).oneV.1
  have z2 : ∀ V, Mods Nil W V → V.cell? ⟨q, j, none⟩ = some (.int .u64 (x : Int)) := fun V hV => (World.cell?_of_block (hV.block q hqlt (fun h => h))).trans hc
  have HO := Lib.hid ho
  clear hx hyy hn hm hy hj ha hb ho hbq hqlt hfz hcell hset hc
  go_enter Try.func72, Try.ntmps72
  go_wp2_with fail
  refine qt_region 10 (by kernel_rfl) rfl ?_
  refine qt_quiet (fun V => Mods Nil W V) 0 9 1 (by kernel_rfl) ((Mods.refl Nil W).drew) ?_
  simp only [List.drop_zero, List.take_succ_cons, List.take_zero]
  repeat (first
    | go_big_quiet_skip
    | (go_big_quiet_want; first
        | (refine gq_call HAT.out ?_ ?_; (focus (intro V; go_simp; done)); go_big_quiet_on)
        | (refine gq_op (v := ?_) ?_ ?_; rotate_left; (focus (intro V hV; go_simp; try with_reducible rfl)); go_big_quiet_on))
      simp only [Act.put, List.setIfInBounds_toArray, List.set_cons_zero, List.set_cons_succ])
  refine wpQuiet_nil ?_
  intro V hV
  refine qt_list 9 1 rfl (by kernel_rfl) ?_
  simp only [List.drop_succ_cons, List.drop_zero]
  obtain ⟨q2, cap2, hv2, _, _, _, _, hf2, hc2, hs2⟩ := own_set (own_mods HO.out hV (fun _ _ h => h)) (k := j) (by omega)
  injection hv2 with e1 e2 e3
  injection e1 with e1
  injection e1 with e1
  subst e1
  have g0 := z2 V hV
  have HS2 := Lib.hid (hs2 (.int .u64 (u : Int)))
  have HV := Lib.hid hV
  clear z0 z1 z2 hV hs2 hc2 e3
  go_wp2_with fail
  refine bodyPost_end (results_none rfl _ _ _) rfl ⟨rfl, ?_, ?_⟩
  · have h := HS2.out
    rwa [nums_set] at h
  · exact Mods.setCell (S := fun k => Value.ownBlock (.slice (some ⟨q, 0, none⟩) n cap) = some k) (p := ⟨q, j, none⟩) (HV.out.mono (fun _ _ h => h.elim)) (fun _ => rfl) _
end Go.Proofs.Ytkodmgnagfolpaa
