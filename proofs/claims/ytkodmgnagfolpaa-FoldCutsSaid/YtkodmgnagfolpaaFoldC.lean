/- Texts laid as one: Foldb, Foldc, Foldd, Folde, Foldf. -/
import Derived.Test.YtkodmgnagfolpaaFoldB
import Derived.Laws.StructEq

section
/- Package fold: nop, add, trim. -/
namespace Go.Proofs.Ytkodmgnagfolpaa
set_option maxRecDepth 100000
open Go.RowKit Go.Maps
set_option linter.unusedVariables false
set_option linter.unusedSimpArgs false

/-- What an op tells, and what the state is then. -/
def OpTold (w : World) (f : FA) (T : Nat) (r : Int × PF) (e : Ending) (w' : World) : Prop := e = .returned (.int .i64 r.1) ∧ ∃ f', StAt w' f' r.2 T ∧ FA.next w f f' ∧ Mods (FS f) w w'
theorem OpTold.same {w w' : World} {f : FA} {s : PF} {T : Nat} (h : StAt w f s T) (hm : Mods Nil w w') (x : Int) : OpTold w f T (x, s) (.returned (.int .i64 x)) w' :=
  ⟨rfl, f, h.nil hm, FA.next.refl _ _, hm.mono (fun _ _ h => h.elim)⟩
set_option maxHeartbeats 800000 in
theorem fnop_any {w : World} {f : FA} {s : PF} {T : Nat} (h : StAt w f s T) (c : PC) (A : Option Addr) (n k : Nat) :
    Calls Try.prog 36 #[.pointer (some ⟨f.b, 0, none⟩), .agg (CV c A n k)] w (OpTold w f T (0, s)) := by
  have H := Lib.hid (fun w' (hm : Mods Nil w w') => OpTold.same h hm 0)
  have M0 := Lib.hid ((Mods.refl Nil w).alloc (.cells (CV c A n k) 30))
  clear h
  go_enter Try.func36, Try.ntmps36
  go_wp2_with fail
  go_ret
  exact H.out _ M0.out
set_option maxHeartbeats 3200000 in
theorem fadd_any {w : World} {f : FA} {s : PF} {T : Nat} (h : StAt w f s T) (c : PC) (A : Option Addr) (n k : Nat) (hi : in64 c.shard) (hT : T ≤ 1000000) :
    Calls Try.prog 37 #[.pointer (some ⟨f.b, 0, none⟩), .agg (CV c A n k)] w (OpTold w f (T + 1) (if (s.sh c.shard).isSome = true then (31, s) else (0, { s with sh := upH s.sh c.shard { segs := c.segs } }))) := by
  obtain ⟨W0, hW0⟩ : ∃ W, w.alloc (.cells (CV c A n k) 30) = W := ⟨_, rfl⟩
  have M0 : Hid (Mods Nil w W0) := by rw [← hW0]; exact Lib.hid ((Mods.refl Nil w).alloc _)
  have B0 : Hid (Blk W0 w.heap.size 30 (CV c A n k)) := by
    subst hW0
    exact Lib.hid (Blk.new w _ _)
  have H0 := Lib.hid (h.nil M0.out)
  have HH := Lib.hid h
  have d0 := H0.out.cells.1
  have bl := H0.out.blk.lt
  have e1 : ∀ V, Mods Nil W0 V → V.cell? ⟨f.b, 0, none⟩ = some (.map (some f.m1)) := fun V hV => (World.cell?_of_block (hV.block f.b bl (fun h => h))).trans d0
  have e2 : ∀ V, Mods Nil W0 V → V.cell? ⟨w.heap.size, 3, none⟩ = some (.int .i64 c.shard) := fun V hV => (cv_seven (B0.out.mods hV (fun h => h))).2.2.2.1
  have e4 : ∀ V, Mods Nil W0 V → V.cell? ⟨w.heap.size, 4, none⟩ = some (.int .i64 c.segs) := fun V hV => (cv_seven (B0.out.mods hV (fun h => h))).2.2.2.2.1
  have HI := Lib.hid hi
  cases hq : s.sh c.shard with
  | some q =>
    obtain ⟨A2, m, d, hm, ho, hlk⟩ := look_sh H0.out hi hq
    have e3 : ∀ V, Mods Nil W0 V → (Instr.lookup 57 (.map (some f.m1)) (.int .i64 c.shard) true).run Try.prog V = .ok (.tuple #[.agg #[.int .i64 c.shard, .int .i64 q.segs, .slice A2 m d, .bool q.final], .bool true]) V := fun V hV => (hlk V hV).1
    have HE := Lib.hid (fun w' (hm : Mods Nil w w') => OpTold.same (h.mono (Nat.le_succ T)) hm 31)
    clear h hi hq hm ho hlk d0 bl
    go_enter Try.func37, Try.ntmps37
    go_wp2_with fail
    refine hw_region (S := fun V => Mods Nil W0 V) 13 (by kernel_rfl) rfl ?_
    refine hw_reads 0 10 3 (by kernel_rfl) (fun _ _ _ _ _ h => h) ((Mods.refl Nil W0).drew) ?_
    simp only [List.drop_zero, List.take_succ_cons, List.take_zero]
    repeat (refine hw_op (by rfl) (v := ?_) ?_ ?_; rotate_left; (focus (intro V hV; go_simp; try with_reducible rfl)); simp only [Act.put, List.setIfInBounds_toArray, List.set_cons_zero, List.set_cons_succ])
    refine hw_nil ?_
    refine hw_new 10 1 rfl rfl (by kernel_rfl) (by kernel_rfl) rfl rfl rfl rfl rfl rfl (by decide) (by simp) rfl (sh_zero _) rfl rfl (by simp [Value.oneCell']) (by kernel_rfl) rfl ((Mods.refl Nil W0).drew) ?_
    intro W2 b2 m2 s2
    have M2 := Lib.hid (M0.out.trans m2.of_drew)
    refine hw_one 12 0 rfl (by kernel_rfl) (by rfl) (v := .bool true) (w' := W2) ?_ m2.of_drew ?_
    · go_simp
    simp only [List.getElem_toArray, List.getElem_cons_succ, List.getElem_cons_zero, Act.put, List.setIfInBounds_toArray, List.set_cons_zero, List.set_cons_succ]
    refine hw_done (by kernel_rfl) ?_
    clear b2 m2 s2 e1 e2 e3 e4
    go_wp2_with fail
    go_ret
    exact HE.out _ M2.out
  | none =>
    have e3 := miss_sh H0.out hi hq
    unfold zeroS at e3
    have HQ := Lib.hid hq
    have D0 := Lib.hid e1
    have D3 := Lib.hid e2
    have D4 := Lib.hid e4
    clear h hi hq d0 bl
    go_enter Try.func37, Try.ntmps37
    go_wp2_with fail
    refine hw_region (S := fun V => Mods Nil W0 V) 13 (by kernel_rfl) rfl ?_
    refine hw_reads 0 10 3 (by kernel_rfl) (fun _ _ _ _ _ h => h) ((Mods.refl Nil W0).drew) ?_
    simp only [List.drop_zero, List.take_succ_cons, List.take_zero]
    repeat (refine hw_op (by rfl) (v := ?_) ?_ ?_; rotate_left; (focus (intro V hV; go_simp; try with_reducible rfl)); simp only [Act.put, List.setIfInBounds_toArray, List.set_cons_zero, List.set_cons_succ])
    refine hw_nil ?_
    refine hw_new 10 1 rfl rfl (by kernel_rfl) (by kernel_rfl) rfl rfl rfl rfl rfl rfl (by decide) (by simp) rfl (sh_zero _) rfl rfl (by simp [Value.oneCell']) (by kernel_rfl) rfl ((Mods.refl Nil W0).drew) ?_
    intro W2 b2 m2 s2
    have M2 := Lib.hid m2.of_drew
    refine hw_one 12 0 rfl (by kernel_rfl) (by rfl) (v := .bool false) (w' := W2) ?_ m2.of_drew ?_
    · go_simp
    simp only [List.getElem_toArray, List.getElem_cons_succ, List.getElem_cons_zero, Act.put, List.setIfInBounds_toArray, List.set_cons_zero, List.set_cons_succ]
    refine hw_done (by kernel_rfl) ?_
    have g1 : ∀ V, Mods Nil W2 V → V.cell? ⟨f.b, 0, none⟩ = some (.map (some f.m1)) := fun V hV => D0.out V (M2.out.trans hV)
    have g2 : ∀ V, Mods Nil W2 V → V.cell? ⟨w.heap.size, 3, none⟩ = some (.int .i64 c.shard) := fun V hV => D3.out V (M2.out.trans hV)
    have g4 : ∀ V, Mods Nil W2 V → V.cell? ⟨w.heap.size, 4, none⟩ = some (.int .i64 c.segs) := fun V hV => D4.out V (M2.out.trans hV)
    clear b2 m2 s2 e1 e2 e3 e4
    go_wp2_with fail
    refine qt_region 12 (by kernel_rfl) rfl ?_
    refine qt_quiet (fun V => Mods Nil W2 V) 0 11 1 (by kernel_rfl) ((Mods.refl Nil W2).drew) ?_
    simp only [List.drop_zero, List.take_succ_cons, List.take_zero]
    repeat (first
      | go_big_quiet_skip
      | (go_big_quiet_want; first
          | (refine gq_op (v := ?_) ?_ ?_; rotate_left; (focus (intro V hV; go_simp; try with_reducible rfl)); go_big_quiet_on))
        simp only [Act.put, List.setIfInBounds_toArray, List.set_cons_zero, List.set_cons_succ])
    refine wpQuiet_nil ?_
    intro V hV
    refine qt_list 11 1 rfl (by kernel_rfl) ?_
    simp only [List.drop_succ_cons, List.drop_zero]
    obtain ⟨w9, hrun, ST9, M9⟩ := StAt.lay (q := { segs := c.segs }) (A := none) (n := 0) (c := 0) ((H0.out.nil M2.out).nil hV) HI.out (by unfold maxLen; omega) rfl (World.ownsRow_nil _ _ _ _) (fun k hk => by simp [Value.ownBlock] at hk)
    have ST := Lib.hid (ST9.mono (T' := T + 1) (by split <;> omega))
    have MM := Lib.hid ((((M0.out.trans (M2.out.trans hV)).mono (T := FS f) (fun _ _ h => h.elim))).trans2 M9 (fun k hk e => by subst e; exact .inr (.inl rfl)))
    unfold shV at hrun
    have HP : Hid (∀ w', StAt w' f { s with sh := upH s.sh c.shard { segs := c.segs } } (T + 1) → Mods (FS f) w w' → OpTold w f (T + 1) (if (s.sh c.shard).isSome = true then (31, s) else (0, { s with sh := upH s.sh c.shard { segs := c.segs } })) (.returned (.int .i64 0)) w') := Lib.hid (fun w' h1 h2 => by
      rw [HQ.out, if_neg (by simp)]
      exact ⟨rfl, f, h1, FA.next.refl _ _, h2⟩)
    clear ST9 hV M9 g1 g2 g4
    refine wpList_plain rfl fun K hK => wp_mapUpdate_run rfl rfl rfl rfl rfl hrun (hK _ _ ?_)
    clear hrun hK
    go_wp2_with fail
    go_ret
    have := HP.out _ ST.out MM.out
    rw [HQ.out] at this
    exact this
/-! trim. -/
theorem StAt.setLow {w : World} {f : FA} {s : PF} {T : Nat} (h : StAt w f s T) (lo : Nat) : StAt (w.setCell ⟨f.b, 2, none⟩ (.int .u64 (lo : Int))) f { s with low := lo } T ∧ Mods (FS f) w (w.setCell ⟨f.b, 2, none⟩ (.int .u64 (lo : Int))) := by
  have hs : Mods (fun k => k = f.b) w (w.setCell ⟨f.b, 2, none⟩ (.int .u64 (lo : Int))) := Mods.setCell (S := fun k => k = f.b) (Mods.refl _ _) (fun _ => rfl) _
  have hF : Mods (FS f) w (w.setCell ⟨f.b, 2, none⟩ (.int .u64 (lo : Int))) := hs.mono (fun k _ e => .inl e)
  obtain ⟨n1, g1, h1, h1n, h1s⟩ := h.shards
  obtain ⟨n2, g2, h2, h2n, h2s⟩ := h.told
  refine ⟨⟨?_, own_mods h.spans hs (fun k hk e => by subst e; exact own_blk_ne h.spans h.blk (by decide) hk), ⟨n1, g1, h1.mods hs (fun e => isMap_blk h.map1 h.blk e), h1n, fun i hi => (h1s i hi).mods hF (fun ho k hk => h.nums_off ho k hk)⟩, ⟨n2, g2, h2.mods hs (fun e => isMap_blk h.map2 h.blk e), h2n, h2s⟩, h.ne, fun k hk => Nat.lt_of_lt_of_le (h.old k hk) hs.size⟩, hF⟩
  have := h.blk.set_ 2 (.int .u64 (lo : Int))
  simpa using this
set_option maxHeartbeats 3200000 in
theorem ftrim_any {w : World} {f : FA} {s : PF} {T : Nat} (h : StAt w f s T) (hs : s.len) (hL : s.L.length ≤ 1000000) (c : PC) (A : Option Addr) (n k : Nat) :
    Calls Try.prog 39 #[.pointer (some ⟨f.b, 0, none⟩), .agg (CV c A n k)] w (OpTold w f T (if s.n < c.pos then (36, s) else (0, { s with low := max s.low c.pos }))) := by
  obtain ⟨W0, hW0⟩ : ∃ W, w.alloc (.cells (CV c A n k) 30) = W := ⟨_, rfl⟩
  have M0 : Hid (Mods Nil w W0) := by rw [← hW0]; exact Lib.hid ((Mods.refl Nil w).alloc _)
  have B0 : Hid (Blk W0 w.heap.size 30 (CV c A n k)) := by
    subst hW0
    exact Lib.hid (Blk.new w _ _)
  have H0 := Lib.hid (h.nil M0.out)
  have HH := Lib.hid h
  have HLEN := Lib.hid (fun V (hV : Mods Nil W0 V) => (flen_any (H0.out.nil hV) hs (by omega)).mono fun e w' h => (⟨h.1, hV.trans h.2⟩ : e = .returned (.int .u64 (s.n : Int)) ∧ Mods Nil W0 w'))
  have e5 : ∀ V, Mods Nil W0 V → V.cell? ⟨w.heap.size, 5, none⟩ = some (.int .u64 (c.pos : Int)) := fun V hV => (cv_seven (B0.out.mods hV (fun h => h))).2.2.2.2.2.1
  obtain ⟨N, hN⟩ : ∃ N, s.n = N := ⟨_, rfl⟩
  obtain ⟨p, hp⟩ : ∃ p, c.pos = p := ⟨_, rfl⟩
  obtain ⟨lo, hlo⟩ : ∃ lo, s.low = lo := ⟨_, rfl⟩
  rw [hN] at HLEN
  rw [hp] at e5
  rw [hN, hp, hlo]
  have HLO := Lib.hid hlo
  have HNN := Lib.hid hN
  have E5 := Lib.hid e5
  clear h hs hN hp hlo
  by_cases hlt : N < p
  · rw [if_pos hlt]
    have hltI : (N : Int) < (p : Int) := by omega
    go_enter Try.func39, Try.ntmps39
    go_wp2_with fail
    refine gq_region (by kernel_rfl) (by kernel_rfl) ?_
    try simp only [Act.put, List.setIfInBounds_toArray, List.set_cons_zero, List.set_cons_succ]
    repeat (first
      | go_big_quiet_skip
      | (go_big_quiet_want; first
          | (refine gq_call HLEN.out ?_ ?_; (focus (intro V; go_simp; done)); go_big_quiet_on)
          | (refine gq_op (v := ?_) ?_ ?_; rotate_left; (focus (intro V hV; go_simp; try with_reducible rfl)); go_big_quiet_on))
        simp only [Act.put, List.setIfInBounds_toArray, List.set_cons_zero, List.set_cons_succ])
    refine wpQuiet_nil ?_
    intro V hV
    have NV := Lib.hid hV
    have HV := Lib.hid (M0.out.trans hV)
    clear hV e5
    go_wp2_with fail
    go_ret
    exact OpTold.same HH.out HV.out 36
  · rw [if_neg hlt]
    have hltI : (p : Int) ≤ (N : Int) := by omega
    have hltJ : decide (N < p) = false := by simpa using hlt
    go_enter Try.func39, Try.ntmps39
    go_wp2_with fail
    refine gq_region (by kernel_rfl) (by kernel_rfl) ?_
    try simp only [Act.put, List.setIfInBounds_toArray, List.set_cons_zero, List.set_cons_succ]
    repeat (first
      | go_big_quiet_skip
      | (go_big_quiet_want; first
          | (refine gq_call HLEN.out ?_ ?_; (focus (intro V; go_simp; done)); go_big_quiet_on)
          | (refine gq_op (v := ?_) ?_ ?_; rotate_left; (focus (intro V hV; go_simp; try with_reducible rfl)); go_big_quiet_on))
        simp only [Act.put, List.setIfInBounds_toArray, List.set_cons_zero, List.set_cons_succ])
    refine wpQuiet_nil ?_
    intro V hV
    have NV := Lib.hid hV
    have HV := Lib.hid (M0.out.trans hV)
    clear hV e5
    have STV := Lib.hid (H0.out.nil NV.out)
    have g2 : ∀ V', Mods Nil V V' → V'.cell? ⟨f.b, 2, none⟩ = some (.int .u64 (lo : Int)) := fun V' hV' => by
      have := (STV.out.nil hV').cells.2.2.1
      rw [HLO.out] at this
      exact this
    have g5 : ∀ V', Mods Nil V V' → V'.cell? ⟨w.heap.size, 5, none⟩ = some (.int .u64 (p : Int)) := fun V' hV' => E5.out V' (NV.out.trans hV')
    obtain ⟨mx, hmx⟩ : ∃ mx, max lo p = mx := ⟨_, rfl⟩
    have hmax : ∀ (ts : Array TypeId) (t : TypeId) (W : World), (Builtin.max_ ts t #[.int .u64 (lo : Int), .int .u64 (p : Int)]).run Try.prog W = .ok (.int .u64 (mx : Int)) W := fun ts t W => by
      rw [run_max_int2]
      congr 2
      rw [← hmx]
      split <;> omega
    have HMX := Lib.hid hmx
    clear hmx hlt
    go_wp2_with fail
    refine qt_region 11 (by kernel_rfl) rfl ?_
    refine qt_quiet (fun V' => Mods Nil V V') 0 10 1 (by kernel_rfl) ((Mods.refl Nil V).drew) ?_
    simp only [List.drop_zero, List.take_succ_cons, List.take_zero]
    repeat (first
      | go_big_quiet_skip
      | (go_big_quiet_want; first
          | (refine gq_op (v := ?_) ?_ ?_; rotate_left; (focus (intro V hV; go_simp; try with_reducible rfl)); go_big_quiet_on))
        simp only [Act.put, List.setIfInBounds_toArray, List.set_cons_zero, List.set_cons_succ])
    refine wpQuiet_nil ?_
    intro V2 hV2
    refine qt_list 10 1 rfl (by kernel_rfl) ?_
    simp only [List.drop_succ_cons, List.drop_zero]
    have ST2 := STV.out.nil hV2
    have c2 := ST2.blk.cell 2
    have f2 := ST2.blk.frozen 2
    obtain ⟨hs1, hs2⟩ := ST2.setLow mx
    obtain ⟨W9, hW9⟩ : ∃ W, V2.setCell ⟨f.b, 2, none⟩ (.int .u64 (mx : Int)) = W := ⟨_, rfl⟩
    rw [hW9] at hs1 hs2
    have HS1 := Lib.hid hs1
    have HS2 := Lib.hid (((HV.out.trans hV2).mono (T := FS f) (fun _ _ h => h.elim)).trans hs2)
    clear ST2 hs1 hs2 hV2 g2 g5
    simp only [List.getElem?_toArray, List.getElem?_cons_succ, List.getElem?_cons_zero] at c2
    go_wp2_with fail
    go_ret
    refine ⟨rfl, f, ?_, FA.next.refl _ _, HS2.out⟩
    show StAt W9 f { s with n := N, low := max lo p } T
    rw [← HNN.out, HMX.out]
    exact HS1.out
end Go.Proofs.Ytkodmgnagfolpaa
end

section
/- Package fold: seal. -/
namespace Go.Proofs.Ytkodmgnagfolpaa
set_option maxRecDepth 100000
open Go.RowKit Go.Maps
set_option linter.unusedVariables false
set_option linter.unusedSimpArgs false

theorem cutF_same {s : PF} {l : List PW} {b : Int} (hg : s.good) (hb : rowsB l b = true) (h : (cutF s l).1 ≠ 0) : (cutF s l).2 = s := (cutF_step hg hb).bad h
def sealR (s : PF) (c : PC) : Int × PF := if liveE s c.shard ≠ 0 then (liveE s c.shard, s) else if (cutF s c.rows).1 ≠ 0 then ((cutF s c.rows).1, s) else (0, sealF (cutF s c.rows).2 c.shard)
set_option maxHeartbeats 6400000 in
theorem fseal_any {w : World} {f : FA} {s : PF} {T : Nat} (h : StAt w f s T) (hg : s.good) (c : PC) (hi : in64 c.shard) {A : Option Addr} {n k : Nat} {L : List RowP} (hr : c.rows = pws L) (hR : ∀ V, Mods (FS f) w V → Rws V A n k L) (hb : rowsB c.rows (-1) = true) (hn8 : n ≤ 8) (hL : s.L.length ≤ 800000) (hT : T ≤ 1000000) :
    Calls Try.prog 38 #[.pointer (some ⟨f.b, 0, none⟩), .agg (CV c A n k)] w (OpTold w f T (sealR s c)) := by
  obtain ⟨W0, hW0⟩ : ∃ W, w.alloc (.cells (CV c A n k) 30) = W := ⟨_, rfl⟩
  have M0 : Hid (Mods Nil w W0) := by rw [← hW0]; exact Lib.hid ((Mods.refl Nil w).alloc _)
  have M0F : Hid (Mods (FS f) w W0) := Lib.hid (M0.out.mono (fun _ _ h => h.elim))
  have B0 : Hid (Blk W0 w.heap.size 30 (CV c A n k)) := by
    subst hW0
    exact Lib.hid (Blk.new w _ _)
  have H0 := Lib.hid (h.nil M0.out)
  have HH := Lib.hid h
  have HI := Lib.hid hi
  have HOP := Lib.hid (fopen_any H0.out hi)
  have HCU := Lib.hid (fun V (hV : Mods Nil W0 V) => fcut_any (H0.out.nil hV) hg c hr (fun V' hV' => hR V' ((M0F.out.trans (hV.mono (fun _ _ h => h.elim))).trans hV')) hb hn8 hL hT)
  have HBAD := Lib.hid (cutF_same hg hb)
  have HST := Lib.hid (cutF_step (l := c.rows) hg hb)
  have HLV := Lib.hid (fun h : liveE s c.shard = 0 => liveE_zero.1 h)
  obtain ⟨le, hle⟩ : ∃ le, liveE s c.shard = le := ⟨_, rfl⟩
  obtain ⟨ce, hce⟩ : ∃ ce, (cutF s c.rows).1 = ce := ⟨_, rfl⟩
  obtain ⟨s2, hs2⟩ : ∃ s2, (cutF s c.rows).2 = s2 := ⟨_, rfl⟩
  have HRR : Hid (sealR s c = if le ≠ 0 then (le, s) else if ce ≠ 0 then (ce, s) else (0, sealF s2 c.shard)) := Lib.hid (by unfold sealR; rw [hle, hce, hs2])
  generalize sealR s c = rr at HRR ⊢
  rw [hle] at HOP HLV
  rw [hce, hs2] at HCU
  rw [hce, hs2] at HBAD
  have HGR := Lib.hid HST.out.grows
  rw [hs2] at HGR
  have d3 := (cv_seven B0.out).2.2.2.1
  clear h hg hi hr hR hb hle hce hs2
  by_cases hl0 : le = 0
  · subst hl0
    obtain ⟨q0, hq0, hf0⟩ := HLV.out rfl
    have HQ0 := Lib.hid hq0
    have HF0 := Lib.hid hf0
    clear hq0 hf0
    by_cases hc0 : ce = 0
    · subst hc0
      obtain rfl : rr = (0, sealF s2 c.shard) := by rw [HRR.out, if_neg (by simp), if_neg (by simp)]
      clear HRR
      obtain ⟨q2, hq2, -, -, -⟩ := HGR.out.sh _ _ HQ0.out
      have HQ2 := Lib.hid hq2
      clear hq2
      go_enter Try.func38, Try.ntmps38
      go_wp2_with (first
        | (go_at_call 48; refine HOP.out.mono ?_; rintro e w1 ⟨rfl, m1⟩; have M1 := Lib.hid m1; clear m1; obtain ⟨g0, g1, g2, g3, g4, g5, g6⟩ := cv_seven (B0.out.mods M1.out (fun h => h)))
        | (go_at_call 40; refine (HCU.out _ M1.out).mono ?_; rintro e w2 ⟨rfl, f2, k1, k2, k3⟩; have K1 := Lib.hid k1; have K2 := Lib.hid (k2.old (w := w) ((M0.out.trans M1.out).size)); have K3 := Lib.hid ((M0F.out.trans (M1.out.mono (fun _ _ h => h.elim))).trans k3); have B2 := Lib.hid ((B0.out.mods M1.out (fun h => h)).mods k3 (FS_off (H0.out.nil M1.out) (B0.out.mods M1.out (fun h => h)) (by decide) (by decide))); clear k1 k2 k3))
      have hfb : f2.b = f.b := K2.out.1
      have HFB := Lib.hid hfb
      obtain ⟨A2, m, d, hm, ho, hny, hlk⟩ := look_shY K1.out HI.out HQ2.out
      have HNY := Lib.hid hny
      clear hny
      have HM := Lib.hid hm
      have HO := Lib.hid ho
      obtain ⟨sg, hsg⟩ : ∃ sg, q2.segs = sg := ⟨_, rfl⟩
      obtain ⟨fin, hfin⟩ : ∃ fin, q2.final = fin := ⟨_, rfl⟩
      have HSG := Lib.hid hsg
      have HFIN := Lib.hid hfin
      have d0 := K1.out.cells.1
      rw [hfb] at d0
      have bl := K1.out.blk.lt
      rw [hfb] at bl
      have E1 := Lib.hid (show ∀ V, Mods Nil w2 V → V.cell? ⟨f.b, 0, none⟩ = some (.map (some f2.m1)) from fun V hV => (World.cell?_of_block (hV.block f.b bl (fun h => h))).trans d0)
      have E2 := Lib.hid (show ∀ V, Mods Nil w2 V → V.cell? ⟨w.heap.size, 3, none⟩ = some (.int .i64 c.shard) from fun V hV => (cv_seven (B2.out.mods hV (fun h => h))).2.2.2.1)
      have e1 := E1.out
      have e2 := E2.out
      have e3 : ∀ V, Mods Nil w2 V → (Instr.lookup 57 (.map (some f2.m1)) (.int .i64 c.shard) false).run Try.prog V = .ok (.agg #[.int .i64 c.shard, .int .i64 sg, .slice A2 m d, .bool fin]) V := fun V hV => by
        have := (hlk V hV).2
        unfold shV at this
        rw [hsg, hfin] at this
        exact this
      clear hm ho hsg hfin hlk d0 bl g0 g1 g2 g3 g4 g5 g6 hfb
      refine hw_region (S := fun V => Mods Nil w2 V) 9 (by kernel_rfl) rfl ?_
      refine hw_reads 0 7 2 (by kernel_rfl) (fun _ _ _ _ _ h => h) ((Mods.refl Nil w2).drew) ?_
      simp only [List.drop_zero, List.take_succ_cons, List.take_zero]
      repeat (refine hw_op (by rfl) (v := ?_) ?_ ?_; rotate_left; (focus (intro V hV; go_simp; try with_reducible rfl)); simp only [Act.put, List.setIfInBounds_toArray, List.set_cons_zero, List.set_cons_succ])
      refine hw_nil ?_
      refine hw_new 7 0 rfl rfl (by kernel_rfl) (by kernel_rfl) rfl rfl rfl rfl rfl rfl (by decide) (by simp) rfl (sh_zero _) rfl rfl (by simp [Value.oneCell']) (by kernel_rfl) rfl ((Mods.refl Nil w2).drew) ?_
      intro W3 b3 m3 s3
      refine hw_done (by kernel_rfl) ?_
      have M3 := Lib.hid m3.of_drew
      have z3 := b3.cell 3
      have f3 := b3.frozen 3
      simp only [List.getElem?_toArray, List.getElem?_cons_succ, List.getElem?_cons_zero] at z3
      have hg3 : w2.drew.heap.size = w2.heap.size := rfl
      rw [hg3] at b3 z3 f3 ⊢
      have B3 := Lib.hid b3
      clear e1 e2 e3 b3 m3 s3 hg3
      obtain ⟨W4, hW4⟩ : ∃ W, W3.setCell ⟨w2.heap.size, 3, none⟩ (.bool true) = W := ⟨_, rfl⟩
      have hs4 : Mods (fun k => k = w2.heap.size) W3 W4 := by rw [← hW4]; exact Mods.setCell (S := fun k => k = w2.heap.size) (Mods.refl _ _) (fun _ => rfl) _
      have M4 := Lib.hid (M3.out.nil_trans hs4 (fun k e => by omega))
      have hb4 : Blk W4 w2.heap.size 42 #[.int .i64 c.shard, .int .i64 sg, .slice A2 m d, .bool true] := by
        rw [← hW4]
        have := B3.out.set_ 3 (.bool true)
        simpa using this
      have HB4 := Lib.hid hb4
      have g0 : ∀ V, Mods Nil W4 V → V.cell? ⟨w2.heap.size, 0, none⟩ = some (.int .i64 c.shard) := fun V hV => (HB4.out.mods hV (fun h => h)).cell 0
      have g1 : ∀ V, Mods Nil W4 V → V.cell? ⟨w2.heap.size, 1, none⟩ = some (.int .i64 sg) := fun V hV => (HB4.out.mods hV (fun h => h)).cell 1
      have g2 : ∀ V, Mods Nil W4 V → V.cell? ⟨w2.heap.size, 2, none⟩ = some (.slice A2 m d) := fun V hV => (HB4.out.mods hV (fun h => h)).cell 2
      have g3 : ∀ V, Mods Nil W4 V → V.cell? ⟨w2.heap.size, 3, none⟩ = some (.bool true) := fun V hV => (HB4.out.mods hV (fun h => h)).cell 3
      have g4 : ∀ V, Mods Nil W4 V → V.cell? ⟨f.b, 0, none⟩ = some (.map (some f2.m1)) := fun V hV => E1.out V (M4.out.trans hV)
      have g5 : ∀ V, Mods Nil W4 V → V.cell? ⟨w.heap.size, 3, none⟩ = some (.int .i64 c.shard) := fun V hV => E2.out V (M4.out.trans hV)
      clear hs4 hb4
      go_wp2_with fail
      refine qt_region 8 (by kernel_rfl) rfl ?_
      refine qt_quiet (fun V => Mods Nil W4 V) 0 7 1 (by kernel_rfl) ((Mods.refl Nil W4).drew) ?_
      simp only [List.drop_zero, List.take_succ_cons, List.take_zero]
      repeat (first
        | go_big_quiet_skip
        | (go_big_quiet_want; first
            | (refine gq_op (v := ?_) ?_ ?_; rotate_left; (focus (intro V hV; go_simp; try with_reducible rfl)); go_big_quiet_on))
          simp only [Act.put, List.setIfInBounds_toArray, List.set_cons_zero, List.set_cons_succ])
      refine wpQuiet_nil ?_
      intro V hV
      refine qt_list 7 1 rfl (by kernel_rfl) ?_
      simp only [List.drop_succ_cons, List.drop_zero]
      have NV := M4.out.trans hV
      obtain ⟨w9, hrun, ST9, M9⟩ := StAt.lay (q := { q2 with final := true }) (K1.out.nil NV) HI.out (by unfold maxLen; omega) HM.out (own_mods HO.out NV (fun _ _ h => h)) HNY.out
      rw [show (s2.sh c.shard).isSome = true by rw [HQ2.out]; rfl, if_pos rfl, Nat.add_zero] at ST9
      have hsf : sealF s2 c.shard = { s2 with sh := upH s2.sh c.shard { q2 with final := true } } := by unfold sealF; rw [HQ2.out]
      rw [← hsf] at ST9
      have ST := Lib.hid ST9
      have MM := Lib.hid (((K3.out.trans (NV.mono (fun _ _ h => h.elim)))).trans2 M9 (fun k hk e => by
        subst e
        rcases K2.out.2.1 _ (.inr (.inl rfl)) with h | h
        · exact h
        · omega))
      unfold shV at hrun
      simp only [HSG.out] at hrun
      clear ST9 hV M9 g0 g1 g2 g3 g4 g5 hsf NV
      refine wpList_plain rfl fun K hK => wp_mapUpdate_run rfl rfl rfl rfl rfl hrun (hK _ _ ?_)
      clear hrun hK
      go_wp2_with fail
      go_ret
      exact ⟨rfl, f2, ST.out, K2.out, MM.out⟩
    · have hcb : (ce == 0) = false := by rw [beq_eq_false_iff_ne]; exact hc0
      obtain rfl : rr = (ce, s) := by rw [HRR.out, if_neg (by simp), if_pos hc0]
      have hbad := HBAD.out hc0
      subst hbad
      clear HRR hc0
      go_enter Try.func38, Try.ntmps38
      go_wp2_with (first
        | (go_at_call 48; refine HOP.out.mono ?_; rintro e w1 ⟨rfl, m1⟩; have M1 := Lib.hid m1; clear m1; obtain ⟨g0, g1, g2, g3, g4, g5, g6⟩ := cv_seven (B0.out.mods M1.out (fun h => h)))
        | (go_at_call 40; refine (HCU.out _ M1.out).mono ?_; rintro e w2 ⟨rfl, f2, k1, k2, k3⟩; have K1 := Lib.hid k1; have K2 := Lib.hid (k2.old (w := w) ((M0.out.trans M1.out).size)); have K3 := Lib.hid ((M0F.out.trans (M1.out.mono (fun _ _ h => h.elim))).trans k3); clear k1 k2 k3))
      go_ret
      exact ⟨rfl, f2, K1.out, K2.out, K3.out⟩
  · have hlb : (le == 0) = false := by rw [beq_eq_false_iff_ne]; exact hl0
    obtain rfl : rr = (le, s) := by rw [HRR.out, if_pos hl0]
    clear HRR hl0
    go_enter Try.func38, Try.ntmps38
    go_wp2_with (go_at_call 48; refine HOP.out.mono ?_; rintro e w1 ⟨rfl, m1⟩; have M1 := Lib.hid (M0.out.trans m1); clear m1)
    go_ret
    exact OpTold.same HH.out M1.out le
end Go.Proofs.Ytkodmgnagfolpaa
end

section
/- Package fold: do. -/
namespace Go.Proofs.Ytkodmgnagfolpaa
set_option maxRecDepth 100000
open Go.RowKit Go.Maps
set_option linter.unusedVariables false
set_option linter.unusedSimpArgs false

section
variable {P : Program} {ops : Array Oper} {rest : List Oper} {o : Oper} {a : Act} {Q : Exit → Act → World → Prop} {w : World} {K : Act → World → Prop}
theorem wp_insert_im (m x v : Operand) (t : TypeId) (hop : o.op = Op.insert t m x v) (k e : TypeId) (hk : P.underlying k = some (.int .i64)) (ht : P.underlying t = some (.map k e))
    (b n : Nat) (f : Int → Option Value) (i : Int) (u : Value) (hm : a.eval m = .map (some b)) (hx : a.eval x = .int .i64 i) (hu : a.eval v = u) (h : IMap P k w b n f) (hi : in64 i) (hf : f i = none) (hn : n < maxLen)
    (hK : ∀ w', IMap P k w' b (n + 1) (upd f i (some u)) → Mods (fun j => j = b) w w' → K (a.put o.dst undef) w') : o.wp P a w K Q := by
  obtain ⟨w', hrun, r1, r2⟩ := h.put hk ht hi hf hn u
  unfold Oper.wp
  simp [execOp, hop, hm, hx, hu, hrun, Result.andThen]
  exact hK w' r1 r2
theorem wpList_insert_im (hg : o.guard = none) (m x v : Operand) (t : TypeId) (hop : o.op = Op.insert t m x v) (k e : TypeId) (hk : P.underlying k = some (.int .i64)) (ht : P.underlying t = some (.map k e))
    (b n : Nat) (f : Int → Option Value) (i : Int) (u : Value) (hm : a.eval m = .map (some b)) (hx : a.eval x = .int .i64 i) (hu : a.eval v = u) (h : IMap P k w b n f) (hi : in64 i) (hf : f i = none) (hn : n < maxLen)
    (hK : ∀ w', IMap P k w' b (n + 1) (upd f i (some u)) → Mods (fun j => j = b) w w' → wpList P ops Q rest (a.put o.dst undef) w') : wpList P ops Q (o :: rest) a w :=
  wpList_plain hg fun K' hK' => wp_insert_im m x v t hop k e hk ht b n f i u hm hx hu h hi hf hn (fun w' h1 h2 => hK' _ _ (hK w' h1 h2))
end
theorem ops_of {c : PC} (h : chkC c = 0) : c.op = 0 ∨ c.op = 1 ∨ c.op = 2 ∨ c.op = 3 ∨ c.op = 4 := by
  obtain ⟨_, ho⟩ := chkC_zero.1 h
  by_cases h0 : c.op = 0
  · exact .inl h0
  by_cases h1 : c.op = 1
  · exact .inr (.inl h1)
  by_cases h2 : c.op = 2
  · exact .inr (.inr (.inl h2))
  by_cases h3 : c.op = 3
  · exact .inr (.inr (.inr (.inl h3)))
  by_cases h4 : c.op = 4
  · exact .inr (.inr (.inr (.inr h4)))
  unfold opB at ho
  rw [if_neg h0, if_neg h1, if_neg h2, if_neg h3, if_neg h4] at ho
  cases ho
theorem doF_0 {s : PF} {c : PC} (h : c.op = 0) : doF s c = (0, s) := by unfold doF; simp [h]
theorem doF_1 {s : PF} {c : PC} (h : c.op = 1) : doF s c = (if (s.sh c.shard).isSome = true then (31, s) else (0, { s with sh := upH s.sh c.shard { segs := c.segs } })) := by unfold doF; simp [h]
theorem doF_2 {s : PF} {c : PC} (h : c.op = 2) : doF s c = sealR s c := by unfold doF sealR; simp [h]
theorem doF_3 {s : PF} {c : PC} (h : c.op = 3) : doF s c = (if s.n < c.pos then (36, s) else (0, { s with low := max s.low c.pos })) := by unfold doF; simp [h]
theorem doF_4 {s : PF} {c : PC} (h : c.op = 4) : doF s c = cutF s c.rows := by unfold doF; simp [h]
theorem OpTold.mono {w w' : World} {f : FA} {T : Nat} {r : Int × PF} {e : Ending} (h : OpTold w f T r e w') : OpTold w f (T + 1) r e w' := by
  obtain ⟨h1, f', h2, h3, h4⟩ := h
  exact ⟨h1, f', h2.mono (Nat.le_succ _), h3, h4⟩
theorem OpTold.first {w w1 w' : World} {f : FA} {T : Nat} {r : Int × PF} {e : Ending} (h : OpTold w1 f T r e w') (hm : Mods Nil w w1) : OpTold w f T r e w' := by
  obtain ⟨h1, f', h2, h3, h4⟩ := h
  exact ⟨h1, f', h2, h3.old hm.size, (hm.mono (fun _ _ h => h.elim)).trans h4⟩
theorem funcZ (V : World) : (zeroValue 32).run Try.prog V = .ok .nilFunc V := by kernel_rfl
def fnV (k : FuncId) (b : Nat) : Value := .func (.func k) #[.pointer (some ⟨b, 0, none⟩)] #[]
theorem fdo_pick {V : World} {c : PC} {m n : Nat} {b : Nat} {cmd : Value} {Q : Ending → World → Prop} (ho : c.op = 0 ∨ c.op = 1 ∨ c.op = 2 ∨ c.op = 3 ∨ c.op = 4)
    (hall : (c.op = 0 → Calls Try.prog 36 #[.pointer (some ⟨b, 0, none⟩), cmd] V Q) ∧ (c.op = 1 → Calls Try.prog 37 #[.pointer (some ⟨b, 0, none⟩), cmd] V Q) ∧ (c.op = 2 → Calls Try.prog 38 #[.pointer (some ⟨b, 0, none⟩), cmd] V Q) ∧ (c.op = 3 → Calls Try.prog 39 #[.pointer (some ⟨b, 0, none⟩), cmd] V Q) ∧ (c.op = 4 → Calls Try.prog 40 #[.pointer (some ⟨b, 0, none⟩), cmd] V Q))
    (hI : IMap Try.prog 3 V m n (upd (upd (upd (upd (upd (fun _ => none) 0 (some (fnV 36 b))) 1 (some (fnV 37 b))) 2 (some (fnV 38 b))) 3 (some (fnV 39 b))) 4 (some (fnV 40 b)))) :
    ∃ fn, (∀ args (W : World), (callFunc fn args).run Try.prog W = .ok (.enter fn args) W) ∧ (Instr.lookup 78 (.map (some m)) (.int .i64 c.op) false).run Try.prog V = .ok (.func (.func fn) #[.pointer (some ⟨b, 0, none⟩)] #[]) V ∧ Calls Try.prog fn #[.pointer (some ⟨b, 0, none⟩), cmd] V Q := by
  obtain ⟨h0, h1, h2, h3, h4⟩ := hall
  have hl := fun (i : Int) (v : Value) (hi : in64 i) (hv : (upd (upd (upd (upd (upd (fun _ => none) 0 (some (fnV 36 b))) 1 (some (fnV 37 b))) 2 (some (fnV 38 b))) 3 (some (fnV 39 b))) 4 (some (fnV 40 b))) i = some v) =>
    (IMap.look (t := 78) (e := 32) Try.underlying3 Try.underlying78 hI hi hv (funcZ V)).2
  rcases ho with e | e | e | e | e
  · exact ⟨_, enters Try.func36 (by kernel_rfl) (by rfl), by rw [e]; exact hl 0 _ (in64_of (by decide) (by decide)) (by simp [upd]; rfl), h0 e⟩
  · exact ⟨_, enters Try.func37 (by kernel_rfl) (by rfl), by rw [e]; exact hl 1 _ (in64_of (by decide) (by decide)) (by simp [upd]; rfl), h1 e⟩
  · exact ⟨_, enters Try.func38 (by kernel_rfl) (by rfl), by rw [e]; exact hl 2 _ (in64_of (by decide) (by decide)) (by simp [upd]; rfl), h2 e⟩
  · exact ⟨_, enters Try.func39 (by kernel_rfl) (by rfl), by rw [e]; exact hl 3 _ (in64_of (by decide) (by decide)) (by simp [upd]; rfl), h3 e⟩
  · exact ⟨_, enters Try.func40 (by kernel_rfl) (by rfl), by rw [e]; exact hl 4 _ (in64_of (by decide) (by decide)) (by simp [upd]; rfl), h4 e⟩
set_option maxHeartbeats 6400000 in
theorem fdo_any {w : World} {f : FA} {s : PF} {T : Nat} (h : StAt w f s T) (hg : s.good) (c : PC) (hc : chkC c = 0) (hi : in64 c.shard) {A : Option Addr} {n k : Nat} {L : List RowP} (hr : c.rows = pws L) (hR : ∀ V, Mods (FS f) w V → Rws V A n k L) (hL : s.L.length ≤ 800000) (hT : T ≤ 1000000) :
    Calls Try.prog 22 #[.pointer (some ⟨f.b, 0, none⟩), .agg (CV c A n k)] w (OpTold w f (T + 1) (doF s c)) := by
  have hb := (chkC_zero.1 hc).1
  have hn8 : n ≤ 8 := by
    have h1 := rowsB_len c.rows (-1) (by omega) hb
    have h2 : c.rows.length = n := by
      rw [hr]
      have := (hR w (Mods.refl _ _)).len
      simpa [pws] using this
    omega
  have hmm := @run_makeMap Try.prog
  obtain ⟨W0, hW0⟩ : ∃ W, w.alloc (.cells (CV c A n k) 30) = W := ⟨_, rfl⟩
  have M0 : Hid (Mods Nil w W0) := by rw [← hW0]; exact Lib.hid ((Mods.refl Nil w).alloc _)
  have B0 : Hid (Blk W0 w.heap.size 30 (CV c A n k)) := by
    subst hW0
    exact Lib.hid (Blk.new w _ _)
  obtain ⟨W1, hW1⟩ : ∃ W, W0.alloc (.map #[] 0) = W := ⟨_, rfl⟩
  have I1 : Hid (IMap Try.prog 3 W1 W0.heap.size 0 (fun _ => none)) := by subst hW1; exact Lib.hid (IMap.made W0 _ _)
  have M1 : Hid (Mods Nil W0 W1) := by subst hW1; exact Lib.hid ((Mods.refl Nil W0).alloc _)
  have HOPS := Lib.hid (ops_of hc)
  have HALL : Hid (∀ V, Mods Nil w V → (c.op = 0 → Calls Try.prog 36 #[.pointer (some ⟨f.b, 0, none⟩), .agg (CV c A n k)] V (OpTold w f (T + 1) (doF s c))) ∧ (c.op = 1 → Calls Try.prog 37 #[.pointer (some ⟨f.b, 0, none⟩), .agg (CV c A n k)] V (OpTold w f (T + 1) (doF s c)))
      ∧ (c.op = 2 → Calls Try.prog 38 #[.pointer (some ⟨f.b, 0, none⟩), .agg (CV c A n k)] V (OpTold w f (T + 1) (doF s c))) ∧ (c.op = 3 → Calls Try.prog 39 #[.pointer (some ⟨f.b, 0, none⟩), .agg (CV c A n k)] V (OpTold w f (T + 1) (doF s c)))
      ∧ (c.op = 4 → Calls Try.prog 40 #[.pointer (some ⟨f.b, 0, none⟩), .agg (CV c A n k)] V (OpTold w f (T + 1) (doF s c)))) := Lib.hid (fun V hV => by
    have hRV : ∀ V', Mods (FS f) V V' → Rws V' A n k L := fun V' hV' => hR V' ((hV.mono (fun _ _ h => h.elim)).trans hV')
    refine ⟨fun e => ?_, fun e => ?_, fun e => ?_, fun e => ?_, fun e => ?_⟩
    · rw [doF_0 e]; exact (fnop_any (h.nil hV) c A n k).mono fun e w' h => h.mono.first hV
    · rw [doF_1 e]; exact (fadd_any (h.nil hV) c A n k hi hT).mono fun e w' h => OpTold.first h hV
    · rw [doF_2 e]; exact (fseal_any (h.nil hV) hg c hi hr hRV hb hn8 hL hT).mono fun e w' h => h.mono.first hV
    · rw [doF_3 e]; exact (ftrim_any (h.nil hV) hg.len (by omega) c A n k).mono fun e w' h => h.mono.first hV
    · rw [doF_4 e]; exact (fcut_any (h.nil hV) hg c hr hRV hb hn8 hL hT).mono fun e w' h => OpTold.first (OpTold.mono h) hV)
  clear h hg hc hi hr hR hb hn8 hL hT
  generalize doF s c = rr at HALL ⊢
  go_enter Try.func22, Try.ntmps22
  go_wp2_with (first
    | (have hx : Hid (IMap Try.prog 3 _ W0.heap.size 4 _) := I1; clear hx; refine wpList_insert_im rfl _ _ _ _ rfl 3 32 Try.underlying3 Try.underlying78 W0.heap.size _ _ _ _ rfl rfl rfl I1.out (in64_of (by decide) (by decide)) (by simp [upd]) (by decide) ?_; intro w2 h1 m1; have N2 := Lib.hid (M1.out.nil_trans m1 (fun i e => Nat.le_of_eq e.symm)); have I2 := Lib.hid h1; clear h1 m1; obtain ⟨fn, hfn, hlk, hcl⟩ := fdo_pick HOPS.out (HALL.out w2 (M0.out.trans N2.out)) I2.out; have HCL := Lib.hid hcl; clear hcl; obtain ⟨g0, g1, g2, g3, g4, g5, g6⟩ := cv_seven (B0.out.mods N2.out (fun h => h)))
    | (refine wpList_insert_im rfl _ _ _ _ rfl 3 32 Try.underlying3 Try.underlying78 W0.heap.size _ _ _ _ rfl rfl rfl I1.out (in64_of (by decide) (by decide)) (by simp [upd]) (by decide) ?_; intro w1 h1 m1; have N1 := Lib.hid (M1.out.nil_trans m1 (fun i e => Nat.le_of_eq e.symm)); clear M1 I1; have M1 := N1; have I1 := Lib.hid h1; clear h1 m1 N1)
    | (refine HCL.out.mono ?_; intro e w3 h3; obtain ⟨he, h4⟩ := h3; subst he; have H4 := Lib.hid h4; clear h4))
  go_ret
  exact ⟨rfl, H4.out⟩
end Go.Proofs.Ytkodmgnagfolpaa
end

section
/- Package fold: structs compared. -/
namespace Go.Proofs.Ytkodmgnagfolpaa
set_option maxRecDepth 100000
open Go.RowKit Go.Maps
set_option linter.unusedVariables false
set_option linter.unusedSimpArgs false

theorem ask_guard : Try.prog.eqGuardType Try.prog.depth 62 = false := by kernel_rfl
theorem ask_struct : Try.prog.underlying 62 = some (.struct (Try.prog.fieldsOf 62)) := by kernel_rfl
theorem ask_held : Try.prog.stoodInHeld 62 = false := by kernel_rfl
theorem ask_eq (a b c d : Nat) (w : World) : (binOp .eql 62 (ask a b) (ask c d)).run Try.prog w = .ok (.bool (decide (a = c) && decide (b = d))) w := by
  have u3 := Try.underlying27
  have a3 := Try.isAgg27
  have z3 := Try.sizeOf27
  unfold ask
  rw [run_eql_struct, show (10000 : Nat) = 9999 + 1 from rfl, run_equalIn_agg w 9999 62 _ _ ask_struct ask_held]
  simp only [Program.fieldsOf, Try.underlying62]
  go_simp
  by_cases h1 : a = c <;> by_cases h2 : b = d <;> simp [h1, h2] <;> omega
theorem ask_eqIn (a b c d : Nat) (w : World) : (Op.equalIn 10000 62 (.agg #[.int .u64 (a : Int), .int .u64 (b : Int)]) (.agg #[.int .u64 (c : Int), .int .u64 (d : Int)])).run Try.prog w = .ok (decide (a = c) && decide (b = d)) w := by
  have u3 := Try.underlying27
  have a3 := Try.isAgg27
  have z3 := Try.sizeOf27
  rw [show (10000 : Nat) = 9999 + 1 from rfl, run_equalIn_agg w 9999 62 _ _ ask_struct ask_held]
  simp only [Program.fieldsOf, Try.underlying62]
  go_simp
  by_cases h1 : a = c <;> by_cases h2 : b = d <;> simp [h1, h2] <;> omega
theorem sp_guard : Try.prog.eqGuardType Try.prog.depth 47 = false := by kernel_rfl
theorem sp_struct : Try.prog.underlying 47 = some (.struct (Try.prog.fieldsOf 47)) := by kernel_rfl
theorem sp_held : Try.prog.stoodInHeld 47 = false := by kernel_rfl
instance : DecidableEq PP := fun a b => if h : a.pos = b.pos ∧ a.sh = b.sh ∧ a.seg = b.seg ∧ a.off = b.off ∧ a.many = b.many then .isTrue (by cases a; cases b; simp at h; simp [h]) else .isFalse (fun e => h (by subst e; simp))
theorem sp_neq (p q : PP) (w : World) : (binOp .neq 47 (.agg (cellsP p).toArray) (.agg (cellsP q).toArray)).run Try.prog w = .ok (.bool (!decide (p = q))) w := by
  have u3 := Try.underlying27
  have a3 := Try.isAgg27
  have z3 := Try.sizeOf27
  have u4 := Try.underlying3
  have a4 := Try.isAgg3
  have z4 := Try.sizeOf3
  unfold cellsP
  rw [run_neq_struct, show (10000 : Nat) = 9999 + 1 from rfl, run_equalIn_agg w 9999 47 _ _ sp_struct sp_held]
  simp only [Program.fieldsOf, Try.underlying47]
  go_simp
  have e : (p = q) = (p.pos = q.pos ∧ p.sh = q.sh ∧ p.seg = q.seg ∧ p.off = q.off ∧ p.many = q.many) := by cases p; cases q; simp
  simp only [e, Int.natCast_inj]
  by_cases h1 : p.pos = q.pos <;> by_cases h2 : p.sh = q.sh <;> by_cases h3 : p.seg = q.seg <;> by_cases h4 : p.off = q.off <;> by_cases h5 : p.many = q.many <;> simp [h1, h2, h3, h4, h5]
end Go.Proofs.Ytkodmgnagfolpaa
end

section
/- Package fold: Apply. -/
namespace Go.Proofs.Ytkodmgnagfolpaa
set_option maxRecDepth 100000
open Go.RowKit Go.Maps
set_option linter.unusedVariables false
set_option linter.unusedSimpArgs false

theorem errno_zero (V : World) : (zeroValue 31).run Try.prog V = .ok (.int .i64 0) V := by kernel_rfl
theorem map_nil (b : Nat) (w : World) : (binOp .eql 57 (.map (some b)) (.map none)).run Try.prog w = .ok (.bool false) w := by kernel_rfl
/-- What who asked was told is noted. -/
theorem StAt.tell {w : World} {f : FA} {s : PF} {T : Nat} (h : StAt w f s T) {a b : Nat} (ha : a < 18446744073709551616) (hb : b < 18446744073709551616) (hT : T < maxLen) (e : Int) :
    ∃ w', (Instr.mapUpdate 58 (.map (some f.m2)) (ask a b) (.int .i64 e)).run Try.prog w = .ok () w' ∧ StAt w' f (tell s a b e) (T + 1) ∧ Mods (fun k => k = f.m2) w w' := by
  obtain ⟨n1, g1, h1, h1n, h1s⟩ := h.shards
  obtain ⟨n2, g2, h2, h2n, h2s⟩ := h.told
  obtain ⟨l, hl⟩ := ask_key ha hb
  obtain ⟨w', hr, ⟨m, hm, hm1, hm2⟩, hmo⟩ := h2.put (t := 58) (e := 31) ask_law Try.underlying58 hl (by omega) (.int .i64 e)
  have hU : ∀ {base n size : Nat} {v : Value} {xs : List Value}, w.ownsRow base 27 size v n xs → ∀ k, v.ownBlock = some k → ¬ k = f.m2 := fun ho k hk e => by subst e; exact isMap_own h.map2 ho hk
  refine ⟨w', hr, ⟨h.blk.mods hmo (fun e => isMap_blk h.map2 h.blk e.symm), own_mods h.spans hmo (fun k hk e => by subst e; exact isMap_own h.map2 h.spans hk), ⟨n1, g1, h1.mods hmo (fun e => h.ne e), by omega, fun i hi => (h1s i hi).mods hmo hU⟩, ⟨m, _, hm, by omega, fun x y => ?_⟩, h.ne, fun k hk => Nat.lt_of_lt_of_le (h.old k hk) hmo.size⟩, hmo⟩
  show updK g2 (ask a b) (.int .i64 e) (ask x y) = (if x = a ∧ y = b then some e else s.told x y).map (Value.int .i64)
  by_cases hxy : x = a ∧ y = b
  · rw [if_pos hxy, hxy.1, hxy.2, updK_same]; rfl
  · rw [if_neg hxy, updK_ne (fun h => hxy (ask_inj h)), h2s]
theorem look_told {w : World} {f : FA} {s : PF} {T : Nat} (h : StAt w f s T) {a b : Nat} (ha : a < 18446744073709551616) (hb : b < 18446744073709551616) :
    (∀ e, s.told a b = some e → ∀ V, Mods Nil w V → (Instr.lookup 58 (.map (some f.m2)) (ask a b) true).run Try.prog V = .ok (.tuple #[.int .i64 e, .bool true]) V) ∧ (s.told a b = none → ∀ V, Mods Nil w V → (Instr.lookup 58 (.map (some f.m2)) (ask a b) true).run Try.prog V = .ok (.tuple #[.int .i64 0, .bool false]) V) := by
  obtain ⟨n2, g2, h2, h2n, h2s⟩ := h.told
  obtain ⟨l, hl⟩ := ask_key ha hb
  refine ⟨fun e he V hV => ?_, fun he V hV => ?_⟩
  · exact (KMap.look (t := 58) (e := 31) ask_law Try.underlying58 (h2.mods hV (fun h => h)) hl (by rw [h2s, he]; rfl) (errno_zero V)).1
  · exact KMap.miss (t := 58) (e := 31) ask_law Try.underlying58 (h2.mods hV (fun h => h)) hl (by rw [h2s, he]; rfl) (errno_zero V)
set_option maxHeartbeats 6400000 in
theorem fapply_any {w : World} {f : FA} {s : PF} {T : Nat} (h : StAt w f s T) (hg : s.good) (c : PC) (hok : c.ok) {A : Option Addr} {n k : Nat} {L : List RowP} (hr : c.rows = pws L) (hR : ∀ V, Mods (FS f) w V → Rws V A n k L) (hL : s.L.length ≤ 800000) (hT : T ≤ 900000) :
    Calls Try.prog 12 #[.pointer (some ⟨f.b, 0, none⟩), .agg (CV c A n k)] w (OpTold w f (T + 2) (applyF s c)) := by
  obtain ⟨W0, hW0⟩ : ∃ W, w.alloc (.cells (CV c A n k) 30) = W := ⟨_, rfl⟩
  have M0 : Hid (Mods Nil w W0) := by rw [← hW0]; exact Lib.hid ((Mods.refl Nil w).alloc _)
  have M0F : Hid (Mods (FS f) w W0) := Lib.hid (M0.out.mono (fun _ _ h => h.elim))
  have B0 : Hid (Blk W0 w.heap.size 30 (CV c A n k)) := by
    subst hW0
    exact Lib.hid (Blk.new w _ _)
  have H0 := Lib.hid (h.nil M0.out)
  have HH := Lib.hid h
  have HCK := Lib.hid (ccheck_any W0 c hok hr (hR W0 M0F.out))
  have HC := Lib.hid hok
  obtain ⟨g0, g1, g2, g3, g4, g5, g6⟩ := cv_seven B0.out
  have HDO : Hid (chkC c = 0 → ∀ V, Mods Nil W0 V → Calls Try.prog 22 #[.pointer (some ⟨f.b, 0, none⟩), .agg (CV c A n k)] V (OpTold V f (T + 1) (doF s c))) := Lib.hid (fun hc V hV =>
    fdo_any (H0.out.nil hV) hg c hc (in64_of hok.shard.1 hok.shard.2) hr (fun V' hV' => hR V' ((M0F.out.trans (hV.mono (fun _ _ h => h.elim))).trans hV')) hL (by omega))
  have HT2 : Hid (∀ e w', Mods Nil w w' → OpTold w f (T + 2) (e, s) (.returned (.int .i64 e)) w') := Lib.hid (fun e w' hm => OpTold.same (h.mono (by omega)) hm e)
  have HTL := Lib.hid (look_told H0.out hok.client hok.seq)
  obtain ⟨ck, hck⟩ : ∃ ck, chkC c = ck := ⟨_, rfl⟩
  rw [hck] at HCK HDO
  have HCKE := Lib.hid hck
  have d0 := H0.out.cells.1
  have d3 := H0.out.cells.2.2.2
  have HL0 := Lib.hid H0.out.blk.lt
  obtain ⟨a, ha⟩ : ∃ a, c.client = a := ⟨_, rfl⟩
  obtain ⟨b, hb⟩ : ∃ b, c.seq = b := ⟨_, rfl⟩
  rw [ha, hb] at HTL
  have HA := Lib.hid ha
  have HB := Lib.hid hb
  by_cases hc0 : ck = 0
  · subst hc0
    replace HDO := Lib.hid (HDO.out rfl)
    have hgd : ∀ (x y : Operand) (xs ys : Array Value) (W : World), (eqGuard .eql 62 x y (.agg xs) (.agg ys)).run Try.prog W = .ok () W := fun x y xs ys W => run_eqGuard_agg W .eql 62 x y xs ys ask_guard
    obtain ⟨r, hrr⟩ : ∃ r, (decide (a = 0) && decide (b = 0)) = r := ⟨_, rfl⟩
    have heq : ∀ W, (Op.equalIn 10000 62 (.agg #[.int .u64 (a : Int), .int .u64 (b : Int)]) (.agg #[.int .u64 0, .int .u64 0])).run Try.prog W = .ok r W := fun W => by
      have := ask_eqIn a b 0 0 W
      rw [hrr] at this
      exact this
    have HRR := Lib.hid hrr
    have hmn := map_nil
    cases r with
    | true =>
      have hap : applyF s c = doF s c := by
        simp only [Bool.and_eq_true, decide_eq_true_eq] at hrr
        unfold applyF
        rw [hck, if_neg (by simp), ha, hb, if_pos hrr]
      rw [hap]
      clear h hg hok hr hR hap hck d0 d3 HTL hrr ha hb g0 g1 g2 g3 g4 g5 g6
      go_enter Try.func12, Try.ntmps12
      obtain ⟨g0, g1, g2, g3, g4, g5, g6⟩ := cv_seven B0.out
      go_wp2_with (first
        | (go_at_call 21; refine HCK.out.mono ?_; rintro e w1 ⟨rfl, m1⟩; have M1 := Lib.hid m1; clear m1 g0 g1 g2 g3 g4 g5 g6; have c0 := (H0.out.nil M1.out).cells.1; obtain ⟨-, g1, g2, -⟩ := cv_seven (B0.out.mods M1.out (fun h => h)); rw [HA.out] at g1; rw [HB.out] at g2; obtain ⟨W2, hW2⟩ : ∃ W, w1.alloc (.cells #[.int .u64 (a : Int), .int .u64 (b : Int)] 62) = W := ⟨_, rfl⟩; have M2 : Hid (Mods Nil W0 W2) := (by rw [← hW2]; exact Lib.hid (M1.out.alloc _)); have y0 : W2.cell? ⟨w1.heap.size, 0, none⟩ = some (.int .u64 (a : Int)) := (by rw [← hW2]; exact (Blk.new w1 _ _).cell 0); have y1 : W2.cell? ⟨w1.heap.size, 1, none⟩ = some (.int .u64 (b : Int)) := (by rw [← hW2]; exact (Blk.new w1 _ _).cell 1); obtain ⟨k0, k1, k2, k3, k4, k5, k6⟩ := cv_seven (B0.out.mods M2.out (fun h => h)))
        | (go_at_call 22; refine (HDO.out _ M2.out).mono ?_; intro e w3 h3; obtain ⟨he, h4⟩ := h3.mono.first (M0.out.trans M2.out); subst he; have H4 := Lib.hid h4; clear h4 h3))
      go_ret
      exact ⟨rfl, H4.out⟩
    | false =>
      have hnb : ¬ (a = 0 ∧ b = 0) := by
        rintro ⟨rfl, rfl⟩
        simp at hrr
      have HAB := Lib.hid (show a < 18446744073709551616 ∧ b < 18446744073709551616 from ⟨by rw [← ha]; exact hok.client, by rw [← hb]; exact hok.seq⟩)
      have HTO := Lib.hid (show StAt W0 f s T from H0.out)
      cases ht : s.told a b with
      | some et =>
        have hap : applyF s c = (et, s) := by
          unfold applyF
          rw [hck, if_neg (by simp), ha, hb, if_neg hnb, ht]
        rw [hap]
        have HLK := Lib.hid (HTL.out.1 et ht)
        clear h hg hok hr hR hap hck d0 d3 HTL hrr ha hb hnb ht
        go_enter Try.func12, Try.ntmps12
        go_wp2_with (first
        | (go_at_call 21; refine HCK.out.mono ?_; rintro e w1 ⟨rfl, m1⟩; have M1 := Lib.hid m1; clear m1 g0 g1 g2 g3 g4 g5 g6; have c0 := (H0.out.nil M1.out).cells.1; obtain ⟨-, g1, g2, -⟩ := cv_seven (B0.out.mods M1.out (fun h => h)); rw [HA.out] at g1; rw [HB.out] at g2; obtain ⟨W2, hW2⟩ : ∃ W, w1.alloc (.cells #[.int .u64 (a : Int), .int .u64 (b : Int)] 62) = W := ⟨_, rfl⟩; have M2 : Hid (Mods Nil W0 W2) := (by rw [← hW2]; exact Lib.hid (M1.out.alloc _)); have HWB : Hid (Blk W2 w1.heap.size 62 #[.int .u64 (a : Int), .int .u64 (b : Int)]) := (by rw [← hW2]; exact Lib.hid (Blk.new w1 _ _)); have y0 := HWB.out.cell 0; have y1 := HWB.out.cell 1; simp only [List.getElem?_toArray, List.getElem?_cons_succ, List.getElem?_cons_zero] at y0 y1))
        clear y0 y1
        have q0 : ∀ V, Mods Nil W2 V → V.cell? ⟨w1.heap.size, 0, none⟩ = some (.int .u64 (a : Int)) := fun V hV => (HWB.out.mods hV (fun h => h)).cell 0
        have q1 : ∀ V, Mods Nil W2 V → V.cell? ⟨w1.heap.size, 1, none⟩ = some (.int .u64 (b : Int)) := fun V hV => (HWB.out.mods hV (fun h => h)).cell 1
        have q2 : ∀ V, Mods Nil W2 V → V.cell? ⟨f.b, 3, none⟩ = some (.map (some f.m2)) := fun V hV => (H0.out.nil (M2.out.trans hV)).cells.2.2.2
        have q3 : ∀ V, Mods Nil W2 V → (Instr.lookup 58 (.map (some f.m2)) (.agg #[.int .u64 (a : Int), .int .u64 (b : Int)]) true).run Try.prog V = .ok (.tuple #[.int .i64 et, .bool true]) V := fun V hV => HLK.out V (M2.out.trans hV)
        refine gq_region (by kernel_rfl) (by kernel_rfl) ?_
        try simp only [Act.put, List.setIfInBounds_toArray, List.set_cons_zero, List.set_cons_succ]
        repeat (first
          | go_big_quiet_skip
          | (go_big_quiet_want; first
              | (refine gq_op (v := ?_) ?_ ?_; rotate_left; (focus (intro V hV; go_simp; try with_reducible rfl)); go_big_quiet_on))
            simp only [Act.put, List.setIfInBounds_toArray, List.set_cons_zero, List.set_cons_succ])
        refine wpQuiet_nil ?_
        intro V hV
        have HV := Lib.hid (M0.out.trans (M2.out.trans hV))
        clear hV q0 q1 q2 q3
        go_wp2_with fail
        go_ret
        exact HT2.out et _ HV.out
      | none =>
        have hap : applyF s c = ((doF s c).1, tell (doF s c).2 a b (doF s c).1) := by
          unfold applyF
          rw [hck, if_neg (by simp), ha, hb, if_neg hnb, ht]
        rw [hap]
        obtain ⟨de, hde⟩ : ∃ de, (doF s c).1 = de := ⟨_, rfl⟩
        obtain ⟨ds, hds⟩ : ∃ ds, (doF s c).2 = ds := ⟨_, rfl⟩
        rw [hde, hds]
        have HDE : Hid (doF s c = (de, ds)) := Lib.hid (by rw [← hde, ← hds])
        rw [HDE.out] at HDO
        have HLK := Lib.hid (HTL.out.2 ht)
        clear h hg hok hr hR hap hck d0 d3 HTL hrr ha hb hnb ht hde hds
        go_enter Try.func12, Try.ntmps12
        go_wp2_with (first
        | (go_at_call 21; refine HCK.out.mono ?_; rintro e w1 ⟨rfl, m1⟩; have M1 := Lib.hid m1; clear m1 g0 g1 g2 g3 g4 g5 g6; have c0 := (H0.out.nil M1.out).cells.1; obtain ⟨-, g1, g2, -⟩ := cv_seven (B0.out.mods M1.out (fun h => h)); rw [HA.out] at g1; rw [HB.out] at g2; obtain ⟨W2, hW2⟩ : ∃ W, w1.alloc (.cells #[.int .u64 (a : Int), .int .u64 (b : Int)] 62) = W := ⟨_, rfl⟩; have M2 : Hid (Mods Nil W0 W2) := (by rw [← hW2]; exact Lib.hid (M1.out.alloc _)); have HWB : Hid (Blk W2 w1.heap.size 62 #[.int .u64 (a : Int), .int .u64 (b : Int)]) := (by rw [← hW2]; exact Lib.hid (Blk.new w1 _ _)); have y0 := HWB.out.cell 0; have y1 := HWB.out.cell 1; simp only [List.getElem?_toArray, List.getElem?_cons_succ, List.getElem?_cons_zero] at y0 y1))
        clear y0 y1
        have q0 : ∀ V, Mods Nil W2 V → V.cell? ⟨w1.heap.size, 0, none⟩ = some (.int .u64 (a : Int)) := fun V hV => (HWB.out.mods hV (fun h => h)).cell 0
        have q1 : ∀ V, Mods Nil W2 V → V.cell? ⟨w1.heap.size, 1, none⟩ = some (.int .u64 (b : Int)) := fun V hV => (HWB.out.mods hV (fun h => h)).cell 1
        have q2 : ∀ V, Mods Nil W2 V → V.cell? ⟨f.b, 3, none⟩ = some (.map (some f.m2)) := fun V hV => (H0.out.nil (M2.out.trans hV)).cells.2.2.2
        have q3 : ∀ V, Mods Nil W2 V → (Instr.lookup 58 (.map (some f.m2)) (.agg #[.int .u64 (a : Int), .int .u64 (b : Int)]) true).run Try.prog V = .ok (.tuple #[.int .i64 0, .bool false]) V := fun V hV => HLK.out V (M2.out.trans hV)
        refine gq_region (by kernel_rfl) (by kernel_rfl) ?_
        try simp only [Act.put, List.setIfInBounds_toArray, List.set_cons_zero, List.set_cons_succ]
        repeat (first
          | go_big_quiet_skip
          | (go_big_quiet_want; first
              | (refine gq_op (v := ?_) ?_ ?_; rotate_left; (focus (intro V hV; go_simp; try with_reducible rfl)); go_big_quiet_on))
            simp only [Act.put, List.setIfInBounds_toArray, List.set_cons_zero, List.set_cons_succ])
        refine wpQuiet_nil ?_
        intro V hV
        have NV := Lib.hid hV
        have HV := Lib.hid (M2.out.trans hV)
        obtain ⟨k0, k1, k2, k3, k4, k5, k6⟩ := cv_seven (B0.out.mods HV.out (fun h => h))
        clear hV q0 q1 q2 q3
        go_wp2_with (first
          | (go_at_call 22; refine (HDO.out V HV.out).mono ?_; intro e w3 h3; obtain ⟨he, f3, p1, p2, p3⟩ := h3; subst he; have P1 := Lib.hid p1; have P2 := Lib.hid (p2.old (w := w) ((M0.out.trans HV.out).size)); have P3 := Lib.hid (((M0.out.trans HV.out).mono (T := FS f) (fun _ _ h => h.elim)).trans p3); have PB := Lib.hid ((HWB.out.mods NV.out (fun h => h)).mods p3 (FS_off (H0.out.nil HV.out) (HWB.out.mods NV.out (fun h => h)) (by decide) (by decide))); clear p1 p2 p3))
        clear k0 k1 k2 k3 k4 k5 k6
        have hfb := P2.out.1
        have q0 : ∀ V, Mods Nil w3 V → V.cell? ⟨w1.heap.size, 0, none⟩ = some (.int .u64 (a : Int)) := fun V hV => (PB.out.mods hV (fun h => h)).cell 0
        have q1 : ∀ V, Mods Nil w3 V → V.cell? ⟨w1.heap.size, 1, none⟩ = some (.int .u64 (b : Int)) := fun V hV => (PB.out.mods hV (fun h => h)).cell 1
        have q2 : ∀ V, Mods Nil w3 V → V.cell? ⟨f.b, 3, none⟩ = some (.map (some f3.m2)) := fun V hV => by
          have := (P1.out.nil hV).cells.2.2.2
          rwa [hfb] at this
        have HFB := Lib.hid hfb
        clear hfb
        refine qt_region 7 (by kernel_rfl) rfl ?_
        refine qt_quiet (fun V' => Mods Nil w3 V') 0 6 1 (by kernel_rfl) ((Mods.refl Nil w3).drew) ?_
        simp only [List.drop_zero, List.take_succ_cons, List.take_zero]
        repeat (first
          | go_big_quiet_skip
          | (go_big_quiet_want; first
              | (refine gq_op (v := ?_) ?_ ?_; rotate_left; (focus (intro V hV; go_simp; try with_reducible rfl)); go_big_quiet_on))
            simp only [Act.put, List.setIfInBounds_toArray, List.set_cons_zero, List.set_cons_succ])
        refine wpQuiet_nil ?_
        intro V2 hV2
        refine qt_list 6 1 rfl (by kernel_rfl) ?_
        simp only [List.drop_succ_cons, List.drop_zero]
        obtain ⟨w9, hrun, ST9, M9⟩ := StAt.tell (P1.out.nil hV2) HAB.out.1 HAB.out.2 (by unfold maxLen; omega) de
        have ST := Lib.hid ST9
        have MM := Lib.hid ((P3.out.trans (hV2.mono (fun _ _ h => h.elim))).trans2 M9 (fun k hk e => by
          subst e
          rcases P2.out.2.1 _ (.inr (.inr (.inl rfl))) with h | h
          · exact h
          · omega))
        unfold ask at hrun
        clear ST9 hV2 M9 q0 q1 q2
        refine wpList_plain rfl fun K hK => wp_mapUpdate_run rfl rfl rfl rfl rfl hrun (hK _ _ ?_)
        clear hrun hK
        go_wp2_with fail
        go_ret
        exact ⟨rfl, f3, ST.out, P2.out, MM.out⟩
  · have hcb : (ck == 0) = false := by rw [beq_eq_false_iff_ne]; exact hc0
    have hap : applyF s c = (ck, s) := by unfold applyF; rw [hck, if_pos hc0]
    rw [hap]
    clear h hg hok hr hR hc0 hap hck ha hb d0 d3 HDO HTL
    go_enter Try.func12, Try.ntmps12
    go_wp2_with (go_at_call 21; refine HCK.out.mono ?_; rintro e w1 ⟨rfl, m1⟩; have M1 := Lib.hid (M0.out.trans m1); clear m1)
    go_ret
    exact HT2.out ck _ M1.out
end Go.Proofs.Ytkodmgnagfolpaa
end
