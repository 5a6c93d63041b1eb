/- Package disk: Write, of bytes that lie wherever no call on the disk writes. -/
import Derived.Test.YtdllgmhipenidaaDiskC
namespace Go.Proofs.Ytdllgmhipenidaa
set_option maxRecDepth 100000
open Go.RowKit
set_option linter.unusedVariables false

set_option maxHeartbeats 3200000 in
theorem dwrite_okF {w : World} {base db : Nat} {d : PD} (hW : d.W.length ≤ 1000) {k : Nat} (hk : k < d.L.length) {A : Option Addr} {c : Nat} {b : List UInt8} (hs : ∀ V, DM base w V → Sl V A c (bts b)) (hm : b.length = 64)
    (hC : Calls Try.prog 80 #[.pointer (some ⟨db, 0, none⟩)] w fun e w' => e = .returned (.int .i64 0) ∧ DiskAt w' base db d.count.1 ∧ DM base w w')
    (hR : Calls Try.prog 79 #[.pointer (some ⟨db, 0, none⟩), .int .i64 (k : Int)] w fun e w' => e = .returned (.int .i64 0) ∧ w = w') :
    Calls Try.prog 27 #[.pointer (some ⟨db, 0, none⟩), .int .i64 (k : Int), .slice A 64 c] w fun e w' => e = .returned (.int .i64 0) ∧ DiskAt w' base db { d.count.1 with W := d.W ++ [(k, b)] } ∧ DM base w w' := by
  have HC := Lib.hid hC
  have HR := Lib.hid hR
  have HS := Lib.hid hs
  have HM := Lib.hid hm
  have hZ := zero_w
  clear hs hm hC hR
  go_enter Try.func27, Try.ntmps27
  go_wp2_with (first
    | (go_at_call 79; refine HR.out.mono ?_; rintro e w1 ⟨rfl, rfl⟩)
    | (go_at_call 80; refine HC.out.mono ?_; rintro e w2 ⟨rfl, d2, m2⟩; have D2 := Lib.hid d2; have M2 := Lib.hid m2; clear d2 m2; have S2 := Lib.hid (HS.out _ M2.out))
    | (refine wpList_build_at rfl 135 #[(0, .tmp 24)] rfl (wZ (k : Int)) (by simp [Act.eval]; exact built_w (k : Int)) ?_)
    | (refine wpList_store_mk rfl 135 (.tmp 9) (.tmp 25) rfl rfl w2.heap.size rfl 135 (wZ 0) (wZ (k : Int)) rfl (Blk.new w2 135 (wZ 0)) (by simp [wZ]) (wZ_one _) (by simpa [wZ] using infoWrite2) (by simp [Value.cells]) ?_; intro W3 b3 m3; have B3 := Lib.hid b3; have M3 := Lib.hid (((Mods.refl Nil w2).alloc _).trans2 m3 (fun i hi e => by subst e; exact Nat.lt_irrefl _ hi)); have hsz : w2.heap.size < W3.heap.size := (by have := m3.size; simp at this; omega); clear b3 m3)
    | (refine wpList_copy_mk rfl (.tmp 27) (.tmp 28) 42 42 rfl 5 Try.underlying42 infoByte2 w2.heap.size 1 64 64 135 (wZ (k : Int)) (wC (k, b)).toArray rfl B3.out A 64 c (bts b) rfl ((S2.out).mods M3.out (fun _ _ h => h)) (by rw [bts_length, HM.out]) (bts_one _) (by omega) (by simp [wZ]) (wZ_copy HM.out) ?_; intro W4 b4 m4; have B4 := Lib.hid b4; have M4 := Lib.hid (M3.out.trans2 m4 (fun i hi e => by subst e; exact Nat.lt_irrefl _ hi)); clear b4 m4))
  obtain ⟨vS, vW, z, D4⟩ := D2.out.nil M4.out
  obtain ⟨A1, cp, hvW, hcp, hcm⟩ := own_form D4.waits
  obtain ⟨n, hn⟩ : ∃ n, d.count.1.W.length = n := ⟨_, rfl⟩
  have c1 := D4.blk.four.1.2.1
  have f1 := D4.blk.four.2.2.1
  rw [hvW, hn] at c1
  have hdb4 := D4.blk.lt
  have hnb : db ≠ w2.heap.size := by rintro rfl; exact B4.out.ne_ D4.blk (by decide) rfl
  have DD := Lib.hid D4
  have HN := Lib.hid hn
  have HVW := Lib.hid hvW
  clear D4 hn hvW hcp hcm hsz
  refine wp_region_any (by kernel_rfl) ?_
  show wpAny _ _ _ _ _ _ _ W4.drew
  refine wpAny_take (i := 0) (oi := ⟨_, _, _, _, _, _⟩) (v := .pointer (some ⟨db, 0, none⟩)) rfl (by kernel_rfl) (by kernel_rfl) (by kernel_rfl) (fun _ _ _ h => h) (Or.inl ⟨by rfl, fun W => rfl⟩) ?_
  refine wpAny_take (i := 1) (oi := ⟨_, _, _, _, _, _⟩) (v := .pointer (some ⟨db, 0, none⟩)) rfl (by kernel_rfl) (by kernel_rfl) (by kernel_rfl) (fun _ _ _ h => h) (Or.inl ⟨by rfl, fun W => rfl⟩) ?_
  refine wpAny_take (i := 2) (oi := ⟨_, _, _, _, _, _⟩) (v := .pointer (some ⟨db, 0, none⟩)) rfl (by kernel_rfl) (by kernel_rfl) (by kernel_rfl) (fun _ _ _ h => h) (Or.inl ⟨by rfl, fun W => rfl⟩) ?_
  refine wpAny_take (i := 3) (oi := ⟨_, _, _, _, _, _⟩) (v := .pointer (some ⟨db, 1, none⟩)) rfl (by kernel_rfl) (by kernel_rfl) (by kernel_rfl) (fun _ _ _ h => h) (Or.inl ⟨by rfl, fun W => by go_simp⟩) ?_
  obtain ⟨i0, hi, hz0, hz1, hz2⟩ := info_parts infoWrite3
  have HBJ : (Try.prog.info? 135).map (·.size) = some (wC (k, b)).toArray.size := by simpa [wC, HM.out] using infoWrite2
  have hnL : n ≤ 1000 := by rw [← HN.out, d.count_L.2]; exact hW
  have CL := d.count_L
  have hbW : base ≤ W4.heap.size := by have := DD.out.le; omega
  have OWN := Lib.hid (own_mods DD.out.waits (((Mods.refl Nil W4).drew).alloc (.cells (wC (k, b)).toArray 135)) (fun _ _ h => h))
  rw [HVW.out, HN.out] at OWN
  have NEW : Hid (∀ j u, (wC (k, b))[j]? = some u → (W4.drew.alloc (.cells (wC (k, b)).toArray 135)).cell? ((⟨W4.heap.size, 0, none⟩ : Addr).add j) = some u) := Lib.hid (fun j u hu => by
    have := (Blk.new W4.drew 135 (wC (k, b)).toArray).cell j
    rw [Addr.add_lit, Nat.zero_add]
    refine Eq.trans this ?_
    simpa using hu)
  clear hW
  refine wpAny_ready (rs := [4, 5]) (by kernel_rfl) (by simp) (AllReady.cons (o := ⟨_, _, _, _, _, _⟩) rfl (fun K' hK => ?a4) (AllReady.cons (o := ⟨_, _, _, _, _, _⟩) rfl (fun K' hK => ?a5) AllReady.nil))
  case' a4 =>
    rw [if_pos (by rfl)]
    go_simp
    refine hK _ _ ?_
    refine wpAny_ready (rs := [5]) (by kernel_rfl) (by simp) (AllReady.cons (o := ⟨_, _, _, _, _, _⟩) rfl (fun K' hK => ?_) AllReady.nil)
    rw [if_pos (by rfl)]
    refine wp_load_row 135 (.tmp 9) rfl w2.heap.size rfl 135 (wC (k, b)).toArray (0, 0) _ B4.out.drew Try.underlying135 rfl HBJ (hK _ _ ?_)
    refine wpAny_ready (rs := [6]) (by kernel_rfl) (by simp) (AllReady.cons (o := ⟨_, _, _, _, _, _⟩) rfl (fun K' hK => ?_) AllReady.nil)
    rw [if_pos (by rfl)]
    refine wp_build_one 107 135 (.tmp 35) rfl (wC (k, b)).toArray rfl (by simp [Value.cells]) i0 (.agg (wZ 0)) 65 Try.underlying107 hi hz0 hz1 (by omega) (by omega) (by simp [wC, HM.out]) (hK _ _ ?_)
  case' a5 =>
    rw [if_pos (by rfl)]
    refine wp_load_row 135 (.tmp 9) rfl w2.heap.size rfl 135 (wC (k, b)).toArray (0, 0) _ B4.out.drew Try.underlying135 rfl HBJ (hK _ _ ?_)
    refine wpAny_ready (rs := [4, 6]) (by kernel_rfl) (by simp) (AllReady.cons (o := ⟨_, _, _, _, _, _⟩) rfl (fun K' hK => ?b4) (AllReady.cons (o := ⟨_, _, _, _, _, _⟩) rfl (fun K' hK => ?b6) AllReady.nil))
  case' b4 =>
    rw [if_pos (by rfl)]
    go_simp
    refine hK _ _ ?_
    refine wpAny_ready (rs := [6]) (by kernel_rfl) (by simp) (AllReady.cons (o := ⟨_, _, _, _, _, _⟩) rfl (fun K' hK => ?_) AllReady.nil)
    rw [if_pos (by rfl)]
    refine wp_build_one 107 135 (.tmp 35) rfl (wC (k, b)).toArray rfl (by simp [Value.cells]) i0 (.agg (wZ 0)) 65 Try.underlying107 hi hz0 hz1 (by omega) (by omega) (by simp [wC, HM.out]) (hK _ _ ?_)
  case' b6 =>
    rw [if_pos (by rfl)]
    refine wp_build_one 107 135 (.tmp 35) rfl (wC (k, b)).toArray rfl (by simp [Value.cells]) i0 (.agg (wZ 0)) 65 Try.underlying107 hi hz0 hz1 (by omega) (by omega) (by simp [wC, HM.out]) (hK _ _ ?_)
    refine wpAny_ready (rs := [4]) (by kernel_rfl) (by simp) (AllReady.cons (o := ⟨_, _, _, _, _, _⟩) rfl (fun K' hK => ?_) AllReady.nil)
    rw [if_pos (by rfl)]
    go_simp
    refine hK _ _ ?_
  all_goals try simp only [Act.put, List.setIfInBounds_toArray, List.set_cons_zero, List.set_cons_succ]
  all_goals
    refine wpAny_ready (rs := [7]) (by kernel_rfl) (by simp) (AllReady.cons (o := ⟨_, _, _, _, _, _⟩) rfl (fun K' hK => ?_) AllReady.nil)
    refine step_append_rows _ rfl (.tmp 34) (.tmp 36) 107 rfl base 135 i0 (.agg (wZ 0)) 65 72 Try.underlying107 hi hz0 hz1 hz2 rfl (by decide) (.slice A1 n cp) n (waitsC d.count.1.W) rfl OWN.out ⟨W4.heap.size, 0, none⟩ 1 1 (wC (k, b)) rfl (by simp [wC, HM.out]) (by decide) NEW.out (wC_one _) (by omega) (by unfold maxLen; omega) (by simp; omega) ?_
    intro g5 cap5 w5 hown hgrow hblk
    refine hK _ _ ?_
    refine wpAny_take (i := 8) (oi := ⟨_, _, _, _, _, _⟩) (v := .pointer (some ⟨db, 0, none⟩)) rfl (by kernel_rfl) (by kernel_rfl) (by kernel_rfl) (fun _ _ _ h => h) (Or.inl ⟨by rfl, fun W => rfl⟩) ?_
    refine wpAny_take (i := 9) (oi := ⟨_, _, _, _, _, _⟩) (v := .pointer (some ⟨db, 1, none⟩)) rfl (by kernel_rfl) (by kernel_rfl) (by kernel_rfl) (fun _ _ _ h => h) (Or.inl ⟨by rfl, fun W => by go_simp⟩) ?_
    have hb5 := (DD.out.blk.alloc (.cells (wC (k, b)).toArray 135)).grown (grown_of_drew hgrow) (by rw [← HN.out, ← HVW.out]; exact fun e => own_blk_ne DD.out.waits DD.out.blk (by decide) e.symm)
    have g1 := hb5.four.1.2.1
    have g3 := hb5.four.2.2.1
    have HA := Lib.hid (DD.out.add (k := k) (b := b) (by rw [CL.1]; exact hk) HM.out ((Mods.refl Nil W4).alloc (.cells (wC (k, b)).toArray 135)) (by rw [HN.out]; exact hown) (by rw [HVW.out, HN.out]; exact grown_of_drew hgrow))
    clear hown hgrow hblk hb5
    refine wpAny_ready (rs := [10]) (by kernel_rfl) (by simp) (AllReady.cons (o := ⟨_, _, _, _, _, _⟩) rfl (fun K' hK => ?_) AllReady.nil)
    rw [if_pos (by rfl)]
    go_simp
    refine hK _ _ ?_
    refine wpAny_done (by kernel_rfl) ?_ _
    go_wp2
    go_ret
    have h1 := HA.out.1
    rw [CL.2] at h1
    exact ⟨rfl, ⟨vS, _, z, h1⟩, (M2.out.trans (DM.nil M4.out)).trans HA.out.2⟩
set_option maxHeartbeats 3200000 in
theorem dwrite_anyF {w : World} {base db : Nat} {d : PD} (h : DiskAt w base db d) (hW : d.W.length ≤ 1000) (i : Int) {A : Option Addr} {c m : Nat} {b : List UInt8} (hs : ∀ V, DM base w V → Sl V A c (bts b)) (hm : b.length = m) :
    Calls Try.prog 27 #[.pointer (some ⟨db, 0, none⟩), .int .i64 i, .slice A m c] w fun e w' => e = .returned (.int .i64 (d.write i b).2) ∧ DiskAt w' base db (d.write i b).1 ∧ DM base w w' := by
  have HR := Lib.hid (dreach_any h i)
  by_cases ha : d.at_ i = 0
  · by_cases hb : m = 64
    · subst hb
      have HC := Lib.hid (dcount_any h)
      by_cases hc : d.count.2 = 0
      · obtain ⟨-, h0, h1⟩ := PD.at_zero ha
        obtain ⟨k, rfl⟩ : ∃ k : Nat, i = (k : Int) := ⟨i.toNat, by omega⟩
        have hk : k < d.L.length := by omega
        have e : d.write (k : Int) b = ({ d.count.1 with W := d.W ++ [(k, b)] }, 0) := by unfold PD.write; rw [if_neg (by simp [ha]), if_neg (by simp [hm]), if_neg (by simp [hc])]; rfl
        rw [e]
        rw [ha] at HR
        rw [hc] at HC
        rw [← e]
        exact (dwrite_okF hW hk hs hm HC.out HR.out).mono (fun e w' h => by rw [‹d.write (k : Int) b = _›]; exact h)
      · have e : d.write i b = d.count := by unfold PD.write; rw [if_neg (by simp [ha]), if_neg (by simp [hm]), if_pos hc]
        have hc' : (d.count.2 != 0) = true := by simpa using hc
        rw [ha] at HR
        rw [e]
        generalize d.count.2 = x at *
        clear h hs ha hc e
        go_enter Try.func27, Try.ntmps27
        go_wp2_with (first
          | (go_at_call 79; refine HR.out.mono ?_; rintro e w1 ⟨rfl, rfl⟩)
          | (go_at_call 80; refine HC.out.mono ?_; rintro e w2 ⟨rfl, d2, m2⟩; have D2 := Lib.hid d2; have M2 := Lib.hid m2; clear d2 m2))
        go_ret
        exact ⟨rfl, D2.out, M2.out⟩
    · have e : d.write i b = (d, 1) := by unfold PD.write; rw [if_neg (by simp [ha]), if_pos (by omega)]
      rw [e]
      have hbI : decide ((m : Int) = 64) = false := by simp; omega
      rw [ha] at HR
      have H := Lib.hid h
      clear h hs ha e
      go_enter Try.func27, Try.ntmps27
      go_wp2_with (go_at_call 79; refine HR.out.mono ?_; rintro e w1 ⟨rfl, rfl⟩)
      go_ret
      exact ⟨rfl, H.out, DM.refl _ _⟩
  · have e : d.write i b = (d, d.at_ i) := by unfold PD.write; rw [if_pos ha]
    rw [e]
    have ha' : (d.at_ i != 0) = true := by simpa using ha
    have H := Lib.hid h
    generalize d.at_ i = x at *
    clear h hs e ha
    go_enter Try.func27, Try.ntmps27
    go_wp2_with (go_at_call 79; refine HR.out.mono ?_; rintro e w1 ⟨rfl, rfl⟩)
    go_ret
    exact ⟨rfl, H.out, DM.refl _ _⟩
end Go.Proofs.Ytdllgmhipenidaa
