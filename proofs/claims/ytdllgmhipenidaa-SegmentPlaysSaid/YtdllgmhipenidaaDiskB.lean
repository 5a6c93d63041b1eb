/- Texts laid as one: Disk4, Disk5, Disk6. -/
import Derived.Test.YtdllgmhipenidaaDiskA

section
/- Package disk: New, Write. -/
namespace Go.Proofs.Ytdllgmhipenidaa
set_option maxRecDepth 100000
open Go.RowKit
set_option linter.unusedVariables false

theorem made_zero (n : Nat) : (madeCells (Value.agg (Array.replicate 64 (.int .u8 0))).cells (n * 64)).toList = sureC (List.replicate n zeros64) := by
  have e1 : (madeCells (Value.agg (Array.replicate 64 (.int .u8 0))).cells (n * 64)).toList = List.replicate (n * 64) (Value.int .u8 0) := by
    apply List.ext_getElem?
    intro j
    by_cases hj : j < n * 64
    · have : j % 64 < 64 := Nat.mod_lt _ (by omega)
      simp [madeCells, hj, Value.cells, this]
    · simp [madeCells, hj]
  rw [e1]
  clear e1
  induction n with
  | zero => rfl
  | succ n ih =>
    rw [List.replicate_succ, show (n + 1) * 64 = 64 + n * 64 by omega, ← List.replicate_append_replicate, ih]
    unfold sureC
    rw [List.flatMap_cons]
    congr 1
theorem dnew_bad (w : World) {n : Int} (h : n < 1 ∨ 65536 < n) : Calls Try.prog 13 #[.int .i64 n] w fun e w' => e = .returned (.tuple #[.pointer none, .int .i64 1]) ∧ w = w' := by
  rcases h with h | h
  · go_enter Try.func13, Try.ntmps13
    go_wp2
    go_ret2
    exact ⟨rfl, rfl⟩
  · have h2 : decide (n < 1) = false := by simp; omega
    have h3 : decide (65536 < n) = true := by simpa using h
    go_enter Try.func13, Try.ntmps13
    go_wp2
    go_ret2
    exact ⟨rfl, rfl⟩
theorem dnew_any (w : World) {base n : Nat} (hb : base ≤ w.heap.size) (h1 : 1 ≤ n) (h2 : n ≤ 65536) : Calls Try.prog 13 #[.int .i64 (n : Int)] w fun e w' => ∃ db, e = .returned (.tuple #[.pointer (some ⟨db, 0, none⟩), .int .i64 0]) ∧ DiskAt w' base db (PD.new n) ∧ Mods Nil w w' := by
  obtain ⟨i0, hi, hz0, hz1, hz2⟩ := info_parts infoBlock
  have k1 : decide ((n : Int) < 1) = false := by simp; omega
  have k2 : decide ((65536 : Int) < (n : Int)) = false := by simp; omega
  have HB := Lib.hid hb
  have H2 := Lib.hid h2
  clear hb h1 h2
  go_enter Try.func13, Try.ntmps13
  go_wp2_with (at_make; refine wpList_make_full _ rfl _ _ 106 rfl base 133 i0 (.agg (Array.replicate 64 (.int .u8 0))) 64 Try.underlying106 hi hz0 hz1 .i64 .i64 (n : Int) (n : Int) n rfl rfl rfl rfl (by rw [hz2]; have := H2.out; omega) (by have := H2.out; unfold maxLen; omega) HB.out ?_; intro w1 o1 g1; have O1 := Lib.hid o1; have G1 := Lib.hid g1; clear o1 g1)
  go_ret2
  have m1 : Mods Nil w w1 := (Mods.refl Nil w).grown G1.out (fun k hk => by cases hk)
  have o1 := O1.out
  rw [made_zero] at o1
  refine ⟨_, rfl, ⟨_, _, _, Blk.new _ _ _, ?_, ?_, ?_, ⟨by omega, .inr ⟨by omega, rfl⟩⟩, PD.new_ok n⟩, m1.alloc _⟩
  · have := own_mods o1 ((Mods.refl Nil w1).alloc (.cells #[.slice (some ⟨w.heap.size, 0, none⟩) n n, .slice none 0 0, .int .i64 (-1), .bool false] 109)) (fun _ _ h => h)
    simpa [PD.new] using this
  · exact World.ownsRow_nil _ _ _ _
  · have := HB.out; have := m1.size; omega

def wZ (i : Int) : Array Value := #[.int .i64 i] ++ Array.replicate 64 (.int .u8 0)
theorem built_w (i : Int) : Try.prog.built 135 [(0, .int .i64 i)] = some (wZ i) := by kernel_rfl
theorem wZ_one (i : Int) : (wZ i).all (·.oneCell') = true := Array.all_eq_true_iff_forall_mem.2 (by
  intro v hv
  simp [wZ] at hv
  rcases hv with rfl | rfl <;> rfl)
theorem zero_w (W : World) : (zeroValue 135).run Try.prog W = .ok (.agg (wZ 0)) W := by
  obtain ⟨i0, hi, hz0, hz1, hz2⟩ := info_parts infoWrite
  simp [zeroValue, typeInfo, hi, hz0, wZ]
theorem wZ_copy {i : Nat} {b : List UInt8} (hb : b.length = 64) : ((wZ (i : Int)).toList.take 1 ++ bts b ++ (wZ (i : Int)).toList.drop (1 + 64)).toArray = (wC (i, b)).toArray := by
  simp [wZ, wC]
theorem dwrite_none (w : World) (i : Int) (B : Value) : Calls Try.prog 27 #[.pointer none, .int .i64 i, B] w fun e w' => e = .returned (.int .i64 1) ∧ w = w' := by
  go_enter Try.func27, Try.ntmps27
  go_wp2_with (go_at_call 79; refine (dreach_none w i).mono ?_; rintro e w1 ⟨rfl, rfl⟩)
  go_ret
  exact ⟨rfl, rfl⟩

theorem infoWrite3 : (Try.prog.info? 135).map (fun i => (i.zero, i.size, i.bytes)) = some (some (.agg (wZ 0)), 65, 72) := by kernel_rfl
theorem DiskIn.add {w w3 w4 : World} {base db : Nat} {vS vW v4 : Value} {z : Int} {d : PD} (h : DiskIn w base db vS vW z d) {k : Nat} {b : List UInt8} (hk : k < d.L.length) (hb : b.length = 64) (m3 : Mods Nil w w3)
    (own4 : w4.ownsRow base 135 65 v4 (d.W.length + 1) (waitsC d.W ++ wC (k, b))) (hg : w3.grownBy w4 vW.ownBlock) :
    DiskIn (w4.setCell ⟨db, 1, none⟩ v4) base db vS v4 z { d with W := d.W ++ [(k, b)] } ∧ DM base w (w4.setCell ⟨db, 1, none⟩ v4) := by
  have h3 := h.nil m3
  have hne := own_blk_ne h.waits h.blk (by decide)
  have hb4 := h3.blk.grown hg (fun e => hne e.symm)
  have m34 : Mods (fun k => vW.ownBlock = some k) w3 w4 := (Mods.refl _ w3).grown hg (fun k hk _ => hk)
  have hset : Mods (fun k => k = db) w4 (w4.setCell ⟨db, 1, none⟩ v4) := Mods.setCell (S := fun k => k = db) (p := ⟨db, 1, none⟩) (Mods.refl _ _) (fun _ => rfl) _
  have s4 := own_mods h3.sure m34 (fun k hk e => own_own_ne h.sure h.waits (by decide) hk e)
  refine ⟨⟨by simpa using hb4.set_ 1 v4, own_mods s4 hset (fun k hk e => own_blk_ne s4 hb4 (by decide) (by rw [hk, e])), ?_, h.le, h.left, ⟨h.ok.sure, fun w hw => ?_⟩⟩, ?_⟩
  · have := own_mods own4 hset (fun k hk e => own_blk_ne own4 hb4 (by decide) (by rw [hk, e]))
    simpa [waitsC] using this
  · rcases List.mem_append.1 hw with hw | hw
    · exact h.ok.waits w hw
    · obtain rfl : w = (k, b) := by simpa using hw
      exact ⟨hk, hb⟩
  · refine ((DM.nil m3).trans (m34.mono (fun k _ e => own_ds h3.waits (.inr (.inr rfl)) k e))).trans (hset.mono (fun k _ e => by rw [e]; exact ⟨h.le, _, _, hb4, .inl rfl⟩))
end Go.Proofs.Ytdllgmhipenidaa
end

section
/- Package disk: Write of a block, done. -/
namespace Go.Proofs.Ytdllgmhipenidaa
set_option maxRecDepth 100000
open Go.RowKit
set_option linter.unusedVariables false

set_option maxHeartbeats 3200000 in
theorem dwrite_ok {w : World} {base db : Nat} {d : PD} (hW : d.W.length ≤ 1000) {k : Nat} (hk : k < d.L.length) {A : Option Addr} {c : Nat} {b : List UInt8} (hs : Bs base w A c b) (hm : b.length = 64)
    (hC : Calls Try.prog 80 #[.pointer (some ⟨db, 0, none⟩)] w fun e w' => e = .returned (.int .i64 0) ∧ DiskAt w' base db d.count.1 ∧ DM base w w')
    (hR : Calls Try.prog 79 #[.pointer (some ⟨db, 0, none⟩), .int .i64 (k : Int)] w fun e w' => e = .returned (.int .i64 0) ∧ w = w') :
    Calls Try.prog 27 #[.pointer (some ⟨db, 0, none⟩), .int .i64 (k : Int), .slice A 64 c] w fun e w' => e = .returned (.int .i64 0) ∧ DiskAt w' base db { d.count.1 with W := d.W ++ [(k, b)] } ∧ DM base w w' := by
  have HC := Lib.hid hC
  have HR := Lib.hid hR
  have HS := Lib.hid hs
  have HM := Lib.hid hm
  have hZ := zero_w
  clear hs hm hC hR
  go_enter Try.func27, Try.ntmps27
  go_wp2_with (first
    | (go_at_call 79; refine HR.out.mono ?_; rintro e w1 ⟨rfl, rfl⟩)
    | (go_at_call 80; refine HC.out.mono ?_; rintro e w2 ⟨rfl, d2, m2⟩; have D2 := Lib.hid d2; have M2 := Lib.hid m2; clear d2 m2; have S2 := Lib.hid (HS.out.dm M2.out).1)
    | (refine wpList_build_at rfl 135 #[(0, .tmp 24)] rfl (wZ (k : Int)) (by simp [Act.eval]; exact built_w (k : Int)) ?_)
    | (refine wpList_store_mk rfl 135 (.tmp 9) (.tmp 25) rfl rfl w2.heap.size rfl 135 (wZ 0) (wZ (k : Int)) rfl (Blk.new w2 135 (wZ 0)) (by simp [wZ]) (wZ_one _) (by simpa [wZ] using infoWrite2) (by simp [Value.cells]) ?_; intro W3 b3 m3; have B3 := Lib.hid b3; have M3 := Lib.hid (((Mods.refl Nil w2).alloc _).trans2 m3 (fun i hi e => by subst e; exact Nat.lt_irrefl _ hi)); have hsz : w2.heap.size < W3.heap.size := (by have := m3.size; simp at this; omega); clear b3 m3)
    | (refine wpList_copy_mk rfl (.tmp 27) (.tmp 28) 42 42 rfl 5 Try.underlying42 infoByte2 w2.heap.size 1 64 64 135 (wZ (k : Int)) (wC (k, b)).toArray rfl B3.out A 64 c (bts b) rfl ((S2.out).mods M3.out (fun _ _ h => h)) (by rw [bts_length, HM.out]) (bts_one _) (by omega) (by simp [wZ]) (wZ_copy HM.out) ?_; intro W4 b4 m4; have B4 := Lib.hid b4; have M4 := Lib.hid (M3.out.trans2 m4 (fun i hi e => by subst e; exact Nat.lt_irrefl _ hi)); clear b4 m4))
  obtain ⟨vS, vW, z, D4⟩ := D2.out.nil M4.out
  obtain ⟨A1, cp, hvW, hcp, hcm⟩ := own_form D4.waits
  obtain ⟨n, hn⟩ : ∃ n, d.count.1.W.length = n := ⟨_, rfl⟩
  have c1 := D4.blk.four.1.2.1
  have f1 := D4.blk.four.2.2.1
  rw [hvW, hn] at c1
  have hdb4 := D4.blk.lt
  have hnb : db ≠ w2.heap.size := by rintro rfl; exact B4.out.ne_ D4.blk (by decide) rfl
  have DD := Lib.hid D4
  have HN := Lib.hid hn
  have HVW := Lib.hid hvW
  clear D4 hn hvW hcp hcm hsz
  refine wp_region_any (by kernel_rfl) ?_
  show wpAny _ _ _ _ _ _ _ W4.drew
  refine wpAny_take (i := 0) (oi := ⟨_, _, _, _, _, _⟩) (v := .pointer (some ⟨db, 0, none⟩)) rfl (by kernel_rfl) (by kernel_rfl) (by kernel_rfl) (fun _ _ _ h => h) (Or.inl ⟨by rfl, fun W => rfl⟩) ?_
  refine wpAny_take (i := 1) (oi := ⟨_, _, _, _, _, _⟩) (v := .pointer (some ⟨db, 0, none⟩)) rfl (by kernel_rfl) (by kernel_rfl) (by kernel_rfl) (fun _ _ _ h => h) (Or.inl ⟨by rfl, fun W => rfl⟩) ?_
  refine wpAny_take (i := 2) (oi := ⟨_, _, _, _, _, _⟩) (v := .pointer (some ⟨db, 0, none⟩)) rfl (by kernel_rfl) (by kernel_rfl) (by kernel_rfl) (fun _ _ _ h => h) (Or.inl ⟨by rfl, fun W => rfl⟩) ?_
  refine wpAny_take (i := 3) (oi := ⟨_, _, _, _, _, _⟩) (v := .pointer (some ⟨db, 1, none⟩)) rfl (by kernel_rfl) (by kernel_rfl) (by kernel_rfl) (fun _ _ _ h => h) (Or.inl ⟨by rfl, fun W => by go_simp⟩) ?_
  obtain ⟨i0, hi, hz0, hz1, hz2⟩ := info_parts infoWrite3
  have HBJ : (Try.prog.info? 135).map (·.size) = some (wC (k, b)).toArray.size := by simpa [wC, HM.out] using infoWrite2
  have hnL : n ≤ 1000 := by rw [← HN.out, d.count_L.2]; exact hW
  have CL := d.count_L
  have hbW : base ≤ W4.heap.size := by have := DD.out.le; omega
  have OWN := Lib.hid (own_mods DD.out.waits (((Mods.refl Nil W4).drew).alloc (.cells (wC (k, b)).toArray 135)) (fun _ _ h => h))
  rw [HVW.out, HN.out] at OWN
  have NEW : Hid (∀ j u, (wC (k, b))[j]? = some u → (W4.drew.alloc (.cells (wC (k, b)).toArray 135)).cell? ((⟨W4.heap.size, 0, none⟩ : Addr).add j) = some u) := Lib.hid (fun j u hu => by
    have := (Blk.new W4.drew 135 (wC (k, b)).toArray).cell j
    rw [Addr.add_lit, Nat.zero_add]
    refine Eq.trans this ?_
    simpa using hu)
  clear hW
  refine wpAny_ready (rs := [4, 5]) (by kernel_rfl) (by simp) (AllReady.cons (o := ⟨_, _, _, _, _, _⟩) rfl (fun K' hK => ?a4) (AllReady.cons (o := ⟨_, _, _, _, _, _⟩) rfl (fun K' hK => ?a5) AllReady.nil))
  case' a4 =>
    rw [if_pos (by rfl)]
    go_simp
    refine hK _ _ ?_
    refine wpAny_ready (rs := [5]) (by kernel_rfl) (by simp) (AllReady.cons (o := ⟨_, _, _, _, _, _⟩) rfl (fun K' hK => ?_) AllReady.nil)
    rw [if_pos (by rfl)]
    refine wp_load_row 135 (.tmp 9) rfl w2.heap.size rfl 135 (wC (k, b)).toArray (0, 0) _ B4.out.drew Try.underlying135 rfl HBJ (hK _ _ ?_)
    refine wpAny_ready (rs := [6]) (by kernel_rfl) (by simp) (AllReady.cons (o := ⟨_, _, _, _, _, _⟩) rfl (fun K' hK => ?_) AllReady.nil)
    rw [if_pos (by rfl)]
    refine wp_build_one 107 135 (.tmp 35) rfl (wC (k, b)).toArray rfl (by simp [Value.cells]) i0 (.agg (wZ 0)) 65 Try.underlying107 hi hz0 hz1 (by omega) (by omega) (by simp [wC, HM.out]) (hK _ _ ?_)
  case' a5 =>
    rw [if_pos (by rfl)]
    refine wp_load_row 135 (.tmp 9) rfl w2.heap.size rfl 135 (wC (k, b)).toArray (0, 0) _ B4.out.drew Try.underlying135 rfl HBJ (hK _ _ ?_)
    refine wpAny_ready (rs := [4, 6]) (by kernel_rfl) (by simp) (AllReady.cons (o := ⟨_, _, _, _, _, _⟩) rfl (fun K' hK => ?b4) (AllReady.cons (o := ⟨_, _, _, _, _, _⟩) rfl (fun K' hK => ?b6) AllReady.nil))
  case' b4 =>
    rw [if_pos (by rfl)]
    go_simp
    refine hK _ _ ?_
    refine wpAny_ready (rs := [6]) (by kernel_rfl) (by simp) (AllReady.cons (o := ⟨_, _, _, _, _, _⟩) rfl (fun K' hK => ?_) AllReady.nil)
    rw [if_pos (by rfl)]
    refine wp_build_one 107 135 (.tmp 35) rfl (wC (k, b)).toArray rfl (by simp [Value.cells]) i0 (.agg (wZ 0)) 65 Try.underlying107 hi hz0 hz1 (by omega) (by omega) (by simp [wC, HM.out]) (hK _ _ ?_)
  case' b6 =>
    rw [if_pos (by rfl)]
    refine wp_build_one 107 135 (.tmp 35) rfl (wC (k, b)).toArray rfl (by simp [Value.cells]) i0 (.agg (wZ 0)) 65 Try.underlying107 hi hz0 hz1 (by omega) (by omega) (by simp [wC, HM.out]) (hK _ _ ?_)
    refine wpAny_ready (rs := [4]) (by kernel_rfl) (by simp) (AllReady.cons (o := ⟨_, _, _, _, _, _⟩) rfl (fun K' hK => ?_) AllReady.nil)
    rw [if_pos (by rfl)]
    go_simp
    refine hK _ _ ?_
  all_goals try simp only [Act.put, List.setIfInBounds_toArray, List.set_cons_zero, List.set_cons_succ]
  all_goals
    refine wpAny_ready (rs := [7]) (by kernel_rfl) (by simp) (AllReady.cons (o := ⟨_, _, _, _, _, _⟩) rfl (fun K' hK => ?_) AllReady.nil)
    refine step_append_rows _ rfl (.tmp 34) (.tmp 36) 107 rfl base 135 i0 (.agg (wZ 0)) 65 72 Try.underlying107 hi hz0 hz1 hz2 rfl (by decide) (.slice A1 n cp) n (waitsC d.count.1.W) rfl OWN.out ⟨W4.heap.size, 0, none⟩ 1 1 (wC (k, b)) rfl (by simp [wC, HM.out]) (by decide) NEW.out (wC_one _) (by omega) (by unfold maxLen; omega) (by simp; omega) ?_
    intro g5 cap5 w5 hown hgrow hblk
    refine hK _ _ ?_
    refine wpAny_take (i := 8) (oi := ⟨_, _, _, _, _, _⟩) (v := .pointer (some ⟨db, 0, none⟩)) rfl (by kernel_rfl) (by kernel_rfl) (by kernel_rfl) (fun _ _ _ h => h) (Or.inl ⟨by rfl, fun W => rfl⟩) ?_
    refine wpAny_take (i := 9) (oi := ⟨_, _, _, _, _, _⟩) (v := .pointer (some ⟨db, 1, none⟩)) rfl (by kernel_rfl) (by kernel_rfl) (by kernel_rfl) (fun _ _ _ h => h) (Or.inl ⟨by rfl, fun W => by go_simp⟩) ?_
    have hb5 := (DD.out.blk.alloc (.cells (wC (k, b)).toArray 135)).grown (grown_of_drew hgrow) (by rw [← HN.out, ← HVW.out]; exact fun e => own_blk_ne DD.out.waits DD.out.blk (by decide) e.symm)
    have g1 := hb5.four.1.2.1
    have g3 := hb5.four.2.2.1
    have HA := Lib.hid (DD.out.add (k := k) (b := b) (by rw [CL.1]; exact hk) HM.out ((Mods.refl Nil W4).alloc (.cells (wC (k, b)).toArray 135)) (by rw [HN.out]; exact hown) (by rw [HVW.out, HN.out]; exact grown_of_drew hgrow))
    clear hown hgrow hblk hb5
    refine wpAny_ready (rs := [10]) (by kernel_rfl) (by simp) (AllReady.cons (o := ⟨_, _, _, _, _, _⟩) rfl (fun K' hK => ?_) AllReady.nil)
    rw [if_pos (by rfl)]
    go_simp
    refine hK _ _ ?_
    refine wpAny_done (by kernel_rfl) ?_ _
    go_wp2
    go_ret
    have h1 := HA.out.1
    rw [CL.2] at h1
    exact ⟨rfl, ⟨vS, _, z, h1⟩, (M2.out.trans (DM.nil M4.out)).trans HA.out.2⟩
end Go.Proofs.Ytdllgmhipenidaa
end

section
/- Package disk: Write. -/
namespace Go.Proofs.Ytdllgmhipenidaa
set_option maxRecDepth 100000
open Go.RowKit
set_option linter.unusedVariables false

set_option maxHeartbeats 3200000 in
theorem dwrite_any {w : World} {base db : Nat} {d : PD} (h : DiskAt w base db d) (hW : d.W.length ≤ 1000) (i : Int) {A : Option Addr} {c m : Nat} {b : List UInt8} (hs : Bs base w A c b) (hm : b.length = m) :
    Calls Try.prog 27 #[.pointer (some ⟨db, 0, none⟩), .int .i64 i, .slice A m c] w fun e w' => e = .returned (.int .i64 (d.write i b).2) ∧ DiskAt w' base db (d.write i b).1 ∧ DM base w w' := by
  have HR := Lib.hid (dreach_any h i)
  by_cases ha : d.at_ i = 0
  · by_cases hb : m = 64
    · subst hb
      have HC := Lib.hid (dcount_any h)
      by_cases hc : d.count.2 = 0
      · obtain ⟨-, h0, h1⟩ := PD.at_zero ha
        obtain ⟨k, rfl⟩ : ∃ k : Nat, i = (k : Int) := ⟨i.toNat, by omega⟩
        have hk : k < d.L.length := by omega
        have e : d.write (k : Int) b = ({ d.count.1 with W := d.W ++ [(k, b)] }, 0) := by unfold PD.write; rw [if_neg (by simp [ha]), if_neg (by simp [hm]), if_neg (by simp [hc])]; rfl
        rw [e]
        rw [ha] at HR
        rw [hc] at HC
        rw [← e]
        exact (dwrite_ok hW hk hs hm HC.out HR.out).mono (fun e w' h => by rw [‹d.write (k : Int) b = _›]; exact h)
      · have e : d.write i b = d.count := by unfold PD.write; rw [if_neg (by simp [ha]), if_neg (by simp [hm]), if_pos hc]
        have hc' : (d.count.2 != 0) = true := by simpa using hc
        rw [ha] at HR
        rw [e]
        generalize d.count.2 = x at *
        clear h hs ha hc e
        go_enter Try.func27, Try.ntmps27
        go_wp2_with (first
          | (go_at_call 79; refine HR.out.mono ?_; rintro e w1 ⟨rfl, rfl⟩)
          | (go_at_call 80; refine HC.out.mono ?_; rintro e w2 ⟨rfl, d2, m2⟩; have D2 := Lib.hid d2; have M2 := Lib.hid m2; clear d2 m2))
        go_ret
        exact ⟨rfl, D2.out, M2.out⟩
    · have e : d.write i b = (d, 1) := by unfold PD.write; rw [if_neg (by simp [ha]), if_pos (by omega)]
      rw [e]
      have hbI : decide ((m : Int) = 64) = false := by simp; omega
      rw [ha] at HR
      have H := Lib.hid h
      clear h hs ha e
      go_enter Try.func27, Try.ntmps27
      go_wp2_with (go_at_call 79; refine HR.out.mono ?_; rintro e w1 ⟨rfl, rfl⟩)
      go_ret
      exact ⟨rfl, H.out, DM.refl _ _⟩
  · have e : d.write i b = (d, d.at_ i) := by unfold PD.write; rw [if_pos ha]
    rw [e]
    have ha' : (d.at_ i != 0) = true := by simpa using ha
    have H := Lib.hid h
    generalize d.at_ i = x at *
    clear h hs e ha
    go_enter Try.func27, Try.ntmps27
    go_wp2_with (go_at_call 79; refine HR.out.mono ?_; rintro e w1 ⟨rfl, rfl⟩)
    go_ret
    exact ⟨rfl, H.out, DM.refl _ _⟩
end Go.Proofs.Ytdllgmhipenidaa
end
