/- Package cell: the turn that comes next. -/
import Derived.Test.YtdllgmhipenidaaCel3
namespace Go.Proofs.Ytdllgmhipenidaa
set_option maxRecDepth 100000
open Go.RowKit
set_option linter.unusedVariables false

theorem Blk.cset {w : World} {g : Nat} {t : TypeId} {l : List UInt8} (h : Blk w g t (bts l).toArray) (i : Nat) (u : UInt8) : Blk (w.setCell ⟨g, i, none⟩ (.int .u8 (u.toNat : Int))) g t (bts (l.set i u)).toArray := by
  have := h.set_ i (.int .u8 (u.toNat : Int))
  have e : (bts l).toArray.setIfInBounds i (.int .u8 (u.toNat : Int)) = (bts (l.set i u)).toArray := by
    simp [bts, List.map_set]
  rwa [e] at this
theorem Blk.cat {w : World} {g : Nat} {t : TypeId} {l : List UInt8} (h : Blk w g t (bts l).toArray) {i : Nat} (hi : i < l.length) : w.cell? ⟨g, i, none⟩ = some (.int .u8 (l[i].toNat : Int)) := by
  rw [h.cell i]
  simpa using bts_get l i hi
/-- A byte is stored into a block of bytes. -/
theorem cw_store_u8 {P : Program} {ops : Array Oper} {rest : List Oper} {o : Oper} {a : Act} {w : World} {Q : Exit → Act → World → Prop} (hg : o.guard = none) (ty : TypeId) (x y : Operand) (ho : o.op = .store ty x y) (hdst : o.dst = none) (hinfo : (P.info? ty).map (·.size) = some 1)
    (g i : Nat) (hx : a.eval x = .pointer (some ⟨g, i, none⟩)) (u : UInt8) (hy : a.eval y = .int .u8 (u.toNat : Int)) (t : TypeId) (l : List UInt8) (hB : Blk w g t (bts l).toArray) (hi : i < l.length)
    (h : ∀ W, Blk W g t (bts (l.set i u)).toArray → Mods (fun j => j = g) w W → wpList P ops Q rest a W) : wpList P ops Q (o :: rest) a w := by
  have hc := hB.cat hi
  have hf := hB.frozen i
  cases hq : P.info? ty with
  | none => simp [hq] at hinfo
  | some ie =>
    have hsz : ie.size = 1 := by simpa [hq] using hinfo
    refine wpList_plain hg fun K hK => ?_
    have hK' := hK _ _ (h _ (hB.cset i u) (Mods.setCell (S := fun j => j = g) (p := ⟨g, i, none⟩) (Mods.refl _ _) (fun _ => rfl) _))
    unfold Oper.wp execOp
    have hst : (storeVar ty ⟨g, i, none⟩ (.int .u8 (u.toNat : Int))).run P w = .ok () (w.setCell ⟨g, i, none⟩ (.int .u8 (u.toNat : Int))) := by
      simp [storeVar, Sem.run_bind, sizeOf, typeInfo, hq, hsz, Value.cells, go_sem, hc, hf]
    simp only [ho, hx, hy, Instr.storeAt, Instr.sureAddr, Sem.run_bind, Sem.run_pure, Result.andThen_ok, hst]
    simpa [Oper.upon, hdst, Act.put] using hK'
def nextL (x m : Nat) : List UInt8 := (eight x).take m ++ List.replicate (8 - m) 0
theorem nextL_length {x m : Nat} (h : m ≤ 8) : (nextL x m).length = 8 := by
  simp [nextL, eight_length]
  omega
theorem num8_zeros (n : Nat) : num8 (List.replicate n 0) = 0 := by
  induction n with
  | zero => rfl
  | succ n ih => rw [List.replicate_succ, num8, ih]; simp
theorem nextL_eight (x : Nat) : nextL x 8 = eight x := by
  unfold nextL
  rw [List.take_of_length_le (by rw [eight_length]; omega)]
  simp
theorem nextL_zero (x : Nat) : nextL x 0 = eight 0 := by rfl
theorem nextL_set {x p : Nat} (hp : p < 8) (u : UInt8) : (nextL x (p + 1)).set p u = (eight x).take p ++ u :: List.replicate (8 - (p + 1)) 0 := by
  have e : (eight x).take (p + 1) = (eight x).take p ++ [(eight x)[p]'(by rw [eight_length]; exact hp)] := List.take_succ_eq_append_getElem _
  have hl : ((eight x).take p).length = p := by rw [List.length_take, eight_length]; omega
  unfold nextL
  rw [e, List.append_assoc, List.set_append_right _ _ (by omega), hl, Nat.sub_self]
  simp
theorem nextL_down {x p : Nat} (hp : p < 8) : (eight x).take p ++ (0 : UInt8) :: List.replicate (8 - (p + 1)) 0 = nextL x p := by
  unfold nextL
  congr 1
  rw [← List.replicate_succ]
  congr 1
  omega
theorem nextL_at {x p : Nat} (hp : p < 8) : (nextL x (p + 1)).getD p 0 = (eight x).getD p 0 := by
  have hl : ((eight x).take (p + 1)).length = p + 1 := by rw [List.length_take, eight_length]; omega
  unfold nextL
  simp only [List.getD_eq_getElem?_getD]
  rw [List.getElem?_append_left (by omega), List.getElem?_take, if_pos (by omega)]
/-- All bytes from a place on are the greatest. -/
def Full (x m : Nat) : Prop := num8 ((eight x).drop m) + 1 = 256 ^ (8 - m)
theorem full_split {x p : Nat} (hx : x < 18446744073709551616) (hp : p < 8) (h : Full x (p + 1)) : x + 1 = num8 ((eight x).take p) * 256 ^ (8 - p) + (((eight x).getD p 0).toNat + 1) * 256 ^ (8 - (p + 1)) := by
  have e : eight x = (eight x).take p ++ ((eight x).getD p 0 :: (eight x).drop (p + 1)) := by
    have h1 : (eight x).drop p = (eight x)[p]'(by rw [eight_length]; exact hp) :: (eight x).drop (p + 1) := List.drop_eq_getElem_cons _
    have h2 : (eight x).getD p 0 = (eight x)[p]'(by rw [eight_length]; exact hp) := by rw [List.getD_eq_getElem?_getD, List.getElem?_eq_getElem (by rw [eight_length]; exact hp)]; rfl
    rw [h2, ← h1, List.take_append_drop]
  have hn : num8 (eight x) = x := num8_eight hx
  conv at hn => lhs; rw [e]
  rw [num8_append, num8] at hn
  unfold Full at h
  have hl : ((eight x).drop (p + 1)).length = 8 - (p + 1) := by rw [List.length_drop, eight_length]
  simp only [List.length_cons, hl] at hn
  rw [show 8 - (p + 1) + 1 = 8 - p by omega] at hn
  rw [Nat.add_mul, Nat.one_mul]
  omega
theorem full_next {x p : Nat} (hp : p < 8) (h : Full x (p + 1)) (hb : ((eight x).getD p 0).toNat = 255) : Full x p := by
  unfold Full at h ⊢
  have h1 : (eight x).drop p = (eight x)[p]'(by rw [eight_length]; exact hp) :: (eight x).drop (p + 1) := List.drop_eq_getElem_cons _
  have h2 : (eight x).getD p 0 = (eight x)[p]'(by rw [eight_length]; exact hp) := by rw [List.getD_eq_getElem?_getD, List.getElem?_eq_getElem (by rw [eight_length]; exact hp)]; rfl
  have hl : ((eight x).drop (p + 1)).length = 8 - (p + 1) := by rw [List.length_drop, eight_length]
  rw [h1, ← h2, num8, hb, hl, show 8 - p = 8 - (p + 1) + 1 by omega, Nat.pow_succ]
  omega
/-- The last byte that rises. -/
theorem next_stop {x p : Nat} (hx : x < 18446744073709551616) (hp : p < 8) (h : Full x (p + 1)) {u : UInt8} (hu : u.toNat = ((eight x).getD p 0).toNat + 1) : (eight x).take p ++ u :: List.replicate (8 - (p + 1)) 0 = eight ((x + 1) % 18446744073709551616) := by
  have hs := full_split hx hp h
  have hn : num8 ((eight x).take p ++ u :: List.replicate (8 - (p + 1)) 0) = x + 1 := by
    rw [num8_append, num8, num8_zeros, hu, hs, List.length_cons, List.length_replicate, show 8 - (p + 1) + 1 = 8 - p by omega]
    omega
  have hl : ((eight x).take p ++ u :: List.replicate (8 - (p + 1)) 0).length = 8 := by
    simp [eight_length]
    omega
  have hlt := num8_lt8 hl
  rw [hn] at hlt
  rw [Nat.mod_eq_of_lt hlt, ← hn, eight_num8 hl]
theorem next_over {x : Nat} (hx : x < 18446744073709551616) (h : Full x 0) : eight ((x + 1) % 18446744073709551616) = eight 0 := by
  unfold Full at h
  rw [List.drop_zero, num8_eight hx] at h
  have : x + 1 = 18446744073709551616 := h
  rw [this]
set_option maxHeartbeats 1600000 in
theorem cnext_any (w : World) {x : Nat} (hx : x < 18446744073709551616) : Calls Try.prog 96 #[.agg (bts (eight x)).toArray] w fun e w' => e = .returned (.agg (bts (eight ((x + 1) % 18446744073709551616))).toArray) ∧ Mods Nil w w' := by
  obtain ⟨W0, hW0⟩ : ∃ W, w.alloc (.cells (bts (eight x)).toArray 144) = W := ⟨_, rfl⟩
  have HM : Hid (Mods Nil w W0) := by rw [← hW0]; exact (Mods.refl Nil w).alloc _
  have B0 : Hid (Blk W0 w.heap.size 144 (bts (eight x)).toArray) := by rw [← hW0]; exact Lib.hid (Blk.new w 144 (bts (eight x)).toArray)
  have HX := Lib.hid hx
  have HL : Hid (w.heap.size < W0.heap.size) := Lib.hid B0.out.lt
  clear hx
  obtain ⟨y, hy⟩ : ∃ y, (x + 1) % 18446744073709551616 = y := ⟨_, rfl⟩
  have HY := Lib.hid hy
  rw [hy]
  clear hy
  go_enter Try.func96, Try.ntmps96
  go_wp2_with (first
    | (refine gw_alloc_of run_alloc_ct rfl rfl ?_; intro W1 b9 m9 s9; have B1 := Lib.hid b9; have B01 := Lib.hid (B0.out.mods m9 (fun h => h)); have M1 := Lib.hid (HM.out.trans m9); have S1 := Lib.hid s9; clear b9 m9 s9))
  go_loopw [3] (fun k wr => ∃ (m : Nat), m ≤ 8 ∧ k = .int .i64 ((m : Int) - 1) ∧ Blk wr w.heap.size 144 (bts (nextL x m)).toArray ∧ Blk wr W0.heap.size 144 (bts (eight 0)).toArray ∧ Full x m ∧ Mods Nil w wr) (fun k _ => (intOf k + 1).toNat)
  case atStart =>
    exact ⟨8, Nat.le_refl _, by go_num, by rw [nextL_eight]; exact B01.out, B1.out, by unfold Full; rw [List.drop_of_length_le (by rw [eight_length]; omega)]; rfl, M1.out⟩
  case round =>
    obtain ⟨m, hm, hk, hA, hB, hF, hM⟩ := hrel
    have BA := Lib.hid hA
    have BB := Lib.hid hB
    have FF := Lib.hid hF
    have MM := Lib.hid hM
    clear hA hB hF hM
    cases m with
    | zero =>
      rw [show (((0 : Nat) : Int) - 1) = -1 by omega] at hk
      subst hk
      have HE := Lib.hid (next_over HX.out FF.out)
      rw [HY.out] at HE
      rw [nextL_zero] at BA
      clear hm
      go_wp2_with (first
        | (refine gw_load_mid (by rfl) 144 _ rfl w.heap.size 0 rfl (bts (eight 0)) _ (blkL_range BA.out) Try.underlying144 rfl (infoCTl 0) ?_)
        | (refine wpList_store_mk rfl 144 (.tmp 2) (.tmp 17) rfl rfl W0.heap.size rfl 144 (bts (eight 0)).toArray (bts (eight 0)).toArray rfl BB.out rfl (btsA_all _) (infoCTa 0) rfl ?_; intro W4 b9 m9; have B4 := Lib.hid b9; have M4 := Lib.hid (MM.out.nil_trans m9 (fun i hi => by have := HL.out; omega)); clear b9 m9))
      refine bodyPost_ret (results_cell_row rfl _ _ W0.heap.size 144 (bts (eight 0)).toArray (0, 0) _ rfl B4.out Try.underlying144 rfl (infoCTa 0)) rfl ?_
      exact ⟨by rw [HE.out], M4.out⟩
    | succ p =>
      rw [show (((p + 1 : Nat) : Int) - 1) = (p : Int) by omega] at hk
      subst hk
      have hp : p < 8 := by omega
      have hpI : (p : Int) < 8 := by omega
      have hl := nextL_length (x := x) (m := p + 1) hm
      have c0 := BA.out.cat (i := p) (by omega)
      have hg := nextL_at (x := x) hp
      rw [List.getD_eq_getElem?_getD, List.getElem?_eq_getElem (by omega), Option.getD_some] at hg
      rw [hg] at c0
      have hb := ((eight x).getD p 0).toNat_lt
      have HNX := Lib.hid (fun h => full_next hp FF.out h)
      have HST := Lib.hid (fun u h => next_stop (u := u) HX.out hp FF.out h)
      rw [HY.out] at HST
      obtain ⟨b, hbb⟩ : ∃ b, ((eight x).getD p 0).toNat = b := ⟨_, rfl⟩
      rw [hbb] at c0 hb HNX HST
      have HP := Lib.hid hp
      have HLn := Lib.hid hl
      clear hg hl hm hbb hp
      by_cases h255 : b = 255
      · subst h255
        have hw : IntKind.u8.wrap 256 = ((0 : UInt8).toNat : Int) := by rfl
        have F2 := Lib.hid (HNX.out rfl)
        go_wp2_with (first
          | (refine cw_store_u8 rfl 5 (.tmp 12) (.tmp 11) rfl rfl infoCU w.heap.size p rfl 0 rfl 144 _ BA.out (by rw [HLn.out]; exact HP.out) ?_; intro W3 b9 m9; have c3 : W3.cell? ⟨w.heap.size, p, none⟩ = some (.int .u8 0) := (by have := b9.cat (i := p) (by rw [List.length_set, HLn.out]; exact HP.out); rw [List.getElem_set_self] at this; exact this); rw [nextL_set HP.out, nextL_down HP.out] at b9; have B3 := Lib.hid b9; have BB3 := Lib.hid (BB.out.mods m9 (by have := HL.out; omega)); have M3 := Lib.hid (MM.out.nil_trans m9 (fun i hi => by omega)); clear b9 m9))
        exact ⟨⟨p, Nat.le_of_lt HP.out, by go_num, B3.out, BB3.out, F2.out, M3.out⟩, by simp [intOf]⟩
      · obtain ⟨u, hu⟩ : ∃ u, UInt8.ofNat (b + 1) = u := ⟨_, rfl⟩
        have hun : u.toNat = b + 1 := by rw [← hu, UInt8.toNat_ofNat']; omega
        have hw : IntKind.u8.wrap ((b : Int) + 1) = (u.toNat : Int) := by rw [hun, IntKind.wrap_u8']; omega
        have HE := Lib.hid (HST.out u hun)
        have hz : ((u.toNat : Int) != 0) = true := by rw [hun]; simp; omega
        clear hu hun hb h255
        go_wp2_with (first
          | (refine cw_store_u8 rfl 5 (.tmp 12) (.tmp 11) rfl rfl infoCU w.heap.size p rfl u rfl 144 _ BA.out (by rw [HLn.out]; exact HP.out) ?_; intro W3 b9 m9; have c3 : W3.cell? ⟨w.heap.size, p, none⟩ = some (.int .u8 (u.toNat : Int)) := (by have := b9.cat (i := p) (by rw [List.length_set, HLn.out]; exact HP.out); rw [List.getElem_set_self] at this; exact this); rw [nextL_set HP.out, HE.out] at b9; have B3 := Lib.hid b9; have BB3 := Lib.hid (BB.out.mods m9 (by have := HL.out; omega)); have M3 := Lib.hid (MM.out.nil_trans m9 (fun i hi => by omega)); clear b9 m9)
          | (refine gw_load_mid (by rfl) 144 _ rfl w.heap.size 0 rfl (bts (eight y)) _ (blkL_range B3.out) Try.underlying144 rfl (infoCTl y) ?_)
          | (refine wpList_store_mk rfl 144 (.tmp 2) (.tmp 17) rfl rfl W0.heap.size rfl 144 (bts (eight 0)).toArray (bts (eight y)).toArray rfl BB3.out (by rw [btsA_size, btsA_size]; rfl) (btsA_all _) (infoCTa y) rfl ?_; intro W4 b9 m9; have B4 := Lib.hid b9; have M4 := Lib.hid (M3.out.nil_trans m9 (fun i hi => by have := HL.out; omega)); clear b9 m9))
        refine bodyPost_ret (results_cell_row rfl _ _ W0.heap.size 144 (bts (eight y)).toArray (0, 0) _ rfl B4.out Try.underlying144 rfl (infoCTa y)) rfl ?_
        exact ⟨rfl, M4.out⟩
end Go.Proofs.Ytdllgmhipenidaa
