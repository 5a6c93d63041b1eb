/- Layer 13's statements: votes as the model has them (votes). -/
import Derived.Test.YthkejoabppocoaaAcc1
import Derived.Test.YthkejoabppocoaaRef13d
import Derived.Test.YthkejoabppocoaaQT
namespace Go.Proofs.Ythkejoabppocoaa
set_option maxRecDepth 1000000
open Go.RowKit
set_option linter.unusedVariables false
set_option linter.unusedSimpArgs false

theorem conv13 {w : World} {A : Option Addr} {c n : Nat} {xs : List UInt8} (hn : xs.length = n) (hs : Sl w A c (bts xs)) : (convert 30 9 (.slice A n c)).run Try.prog w = .ok (.string (strOf xs)) w :=
  run_string_sl _ 30 5 Try.underlying30 Try.underlying5 A n c _ hn hs 9 Try.underlying9
/-- The model's votes, in new memory. -/
def VTold (w : World) (n : Nat) (l : List PVt) (e : Ending) (w' : World) : Prop := ∃ A c, e = .returned (.slice A n c) ∧ RVs w' A c n l ∧ (∀ a, A = some a → w.heap.size ≤ a.block) ∧ Mods Nil w w'
set_option maxHeartbeats 3200000 in
theorem votes13_any (w : World) {D : Nat → Prop} {A : Option Addr} {c n : Nat} {L : List VtP} (h : PVs w D A c n L) (hn : n ≤ 100000) :
    Calls Try.prog 14 #[.slice A n c] w (VTold w n (L.map VtP.plain)) := by
  have H := Lib.hid h
  have HN := Lib.hid h.len
  clear h
  go_enter Try.func14, Try.ntmps14
  go_wp2
  go_loopw [3, 4] (fun v x wr => ∃ i : Nat, i ≤ n ∧ x = .int .i64 (i : Int) ∧ wr.ownsRow w.heap.size 47 3 v i (vtCs ((L.take i).map VtP.plain)) ∧ Mods Nil w wr) (fun _ x _ => n - (intOf x).toNat)
  case atStart => exact ⟨0, Nat.zero_le _, rfl, by simpa [vtCs] using World.ownsRow_nil _ _ _ _, Mods.refl _ _⟩
  case round =>
    obtain ⟨i, hi, rfl, ho, hm⟩ := hrel
    have HO := Lib.hid ho
    have HM := Lib.hid hm
    clear ho hm
    by_cases hlt : i < n
    · have hltI : (i : Int) < (n : Int) := by omega
      have hl1 : i < L.length := by rw [HN.out]; exact hlt
      obtain ⟨q, hq⟩ : ∃ q, L[i]? = some q := ⟨_, List.getElem?_eq_getElem hl1⟩
      obtain ⟨b1, o1, rfl, hbl, c0, c1, c2⟩ := (H.out.nil HM.out).cells hq
      have hsn : (L.take (i + 1)).map VtP.plain = (L.take i).map VtP.plain ++ [q.plain] := by
        rw [List.take_add_one, hq]
        simp
      have hby := ((H.out.nil HM.out).bys q (List.mem_of_getElem? hq)).1
      obtain ⟨s, bb, B, cb, vv⟩ := q
      simp only at c0 c1 c2 hby
      obtain ⟨lv, hlv⟩ : ∃ x, vv.length = x := ⟨_, rfl⟩
      have HCV : ∀ V, Mods Nil wr V → (convert 30 9 (.slice B lv cb)).run Try.prog V = .ok (.string (strOf vv)) V := fun V hV => conv13 hlv (hby.mods hV (fun _ _ h => h))
      rw [hlv] at c2
      have HSN := Lib.hid hsn
      clear hsn hq hby hlv hl1
      go_wp2_with fail
      refine qt_region 21 (by kernel_rfl) rfl ?_
      refine qt_take 0 20 rfl (by kernel_rfl) (by kernel_rfl) (by kernel_rfl) (fun _ _ _ h => h) (by rfl) (v := ?_) ?_ ?_
      rotate_left
      · intro V
        go_simp
        try with_reducible rfl
      simp only [List.getElem_toArray, List.getElem_cons_succ, List.getElem_cons_zero, Act.put, List.setIfInBounds_toArray, List.set_cons_zero, List.set_cons_succ]
      refine qt_quiet (fun V => Mods Nil wr V) 1 17 3 (by kernel_rfl) ((Mods.refl Nil wr).drew) ?_
      simp only [List.drop_succ_cons, List.drop_zero, List.take_succ_cons, List.take_zero]
      repeat (first
        | go_big_quiet_skip
        | (go_big_quiet_want; first
            | (refine gq_op (v := ?_) ?_ ?_; rotate_left; (focus (intro V hV; have k0 := (World.cell?_of_block (hV.block b1 hbl (fun h => h))).trans c0; have k1 := (World.cell?_of_block (hV.block b1 hbl (fun h => h))).trans c1; have k2 := (World.cell?_of_block (hV.block b1 hbl (fun h => h))).trans c2; have k3 := HCV V hV; go_simp; try with_reducible rfl)); go_big_quiet_on))
          simp only [Act.put, List.setIfInBounds_toArray, List.set_cons_zero, List.set_cons_succ])
      refine wpQuiet_nil ?_
      intro V hV
      refine qt_list 18 3 rfl (by kernel_rfl) ?_
      simp only [List.drop_succ_cons, List.drop_zero]
      have OV := Lib.hid (own_mods HO.out hV (fun _ _ h => h))
      have MV := Lib.hid (HM.out.trans hV)
      clear hV c0 c1 c2 HCV
      go_wp2_with (at_builtin; refine push_vt rfl _ _ rfl ⟨s, bb, vv⟩ rfl OV.out rfl (by omega) (by have := MV.out.size; omega) ?_; intro v' w4 o4 m4; have O4 := Lib.hid o4; have M4 := Lib.hid (own_nilm OV.out (Nat.le_refl _) MV.out m4); clear o4 m4)
      exact ⟨⟨i + 1, by omega, by go_num, by rw [HSN.out]; exact O4.out, M4.out⟩, by simp [intOf]; omega⟩
    · obtain rfl : i = n := by omega
      obtain ⟨A2, c2, rfl, r2, hb2⟩ := rvs_own HO.out (by simp [HN.out])
      have R2 := Lib.hid r2
      have HB2 := Lib.hid hb2
      clear r2 hb2
      go_wp2
      go_ret
      refine ⟨A2, c2, rfl, ?_, HB2.out, HM.out⟩
      have := R2.out
      rwa [List.take_of_length_le (by rw [HN.out]; exact Nat.le_refl _)] at this
end Go.Proofs.Ythkejoabppocoaa
